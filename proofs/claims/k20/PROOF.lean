import PyProof.Rows.All
import Wide.All
import OpenK.AllK
import Wide.FinOn
import HandS.ForMost
import HandS.Exc
import HandS.ExcInit
import HandS.ExcIs
import HandS.ExcField
import PyProof.ReprReads
import HandS.NoneIn
import HandS.Flow
import HandS.IsInst
import HandS.Walk
import HandS.More
import HandS.Text
import HandS.SetKeys
import KE.SortUse
import HandS.SortKw
import HandS.Lambda
import HandS.EndTab
import KE.GoesEnum
import KE.GoesMore
import HandS.Iter
import PyProof.TupleOfSeq
import PyProof.Rows.SortStr
import HandS.Rev
import HandS.GenList
import HandS.ExcValue
import PyProof.ListNew
import HandS.TupAny
import HandS.Star
import HandS.SetFor
import KE.KNestM
import PySem.Challenge.RW_foldsame_k20_partitions
set_option Elab.async false
set_option linter.all false
set_option maxRecDepth 100000
set_option maxHeartbeats 4000000
/-! Own rules: exceptions of own classes as values (made, read, asked by isinstance), repr of lists of plain values. -/
namespace PySem.W
open PySem PySem.Spec PySem.Calls PyProof.Rows
section
variable {prog : Program} {w : World} {A : Around} {E : Value → Shared → Prop} {s : Shared} {K : Frag} {x D : Addr} {ox : Obj} {od : Option Obj}
theorem fs_findClass (hdct : hasDictIn K D = true) (ha : findIn K (.ref D) "__class__" = some (some (.builtin "object.__class__"))) (hn : specialIn K (.builtin "object.__class__") "__get__" = some (some (.builtin "getset_descriptor.__get__")))
    (htk : takesIn K (.builtin "object.__class__") = some true) : findObj K D od "__class__" = some (.bind (.builtin "getset_descriptor.__get__") (.builtin "object.__class__")) := by
  obtain ⟨cd, hcd, _⟩ := any_some hdct
  unfold findObj; rw [hcd, Option.bind_some, ha, Option.bind_some]; simp [hn, htk]
theorem fs_class {Q : Option Value → Shared → Prop} (hga : findIn K (.ref D) "__getattribute__" = some (some (.builtin "BaseException.__getattribute__"))) (hgt : findIn K (.ref D) "__getattr__" = some none) (hsub : subIn K (.ref D) (.type "BaseException") = some true)
    (hdct : hasDictIn K D = true) (ha : findIn K (.ref D) "__class__" = some (some (.builtin "object.__class__")))
    (hn : specialIn K (.builtin "object.__class__") "__get__" = some (some (.builtin "getset_descriptor.__get__"))) (htk : takesIn K (.builtin "object.__class__") = some true) (hm : mroIn K D (.type "object") = some true)
    (KX : K.In s.heap) (J : InstAt s.heap x ox D od) (hq : Q (some (.ref D)) { s with toks := s.toks + 1 }) : wpAny (model prog w) A (getAttr? (.ref x) "__class__") Q E s := by
  have hfind : findObj K D od "__class__" = some (.bind (.builtin "getset_descriptor.__get__") (.builtin "object.__class__")) := fs_findClass hdct ha hn htk
  obtain ⟨hp, gg, dd, tt, oo⟩ := s
  have M0 := J.type (M := model prog w); have M1 := looks_findIn (M := model prog w) KX hga
  have M2 := looks_findIn (M := model prog w) KX hgt; have M3 := looks_find (M := model prog w) KX J hfind
  have hisB : Looks (model prog w) hp (isInstance (.ref x) (.type "BaseException")) true := M0.andThen (looks_subIn KX hsub)
  have e0 : (false && onTheHeap (Value.builtin "BaseException.__getattribute__")) = false := rfl
  have e2 : (Value.builtin "BaseException.__getattribute__" == Value.builtin "object.__getattribute__") = false := by decide +kernel
  have e1 : (onTheHeap (Value.ref D) && Value.builtin "BaseException.__getattribute__" == Value.builtin "object.__getattribute__") = false := by rw [e2] <;> rfl
  unfold getAttr? getAttrBy? getAttrBy
  refine wpAny_bind (wpAny_mkText (wpAny_bind (wpAny_attempt (wpAny_holding (wpAny_bind (M0.at (wpAny_bind (M1.at ?_))))))))
  show wpAny _ _ (if (onTheHeap (Value.ref D) && Value.builtin "BaseException.__getattribute__" == Value.builtin "object.__getattribute__") = true then _ else _) _ _ _
  rw [e1, if_neg Bool.false_ne_true]; unfold getAttrByItsOwn hookBefore
  refine wpAny_bind ?_
  rw [if_pos (show onTheHeap (Value.ref D) = true from rfl)]; refine M2.at ?_
  refine wpAny_bind (wpAny_attempt (wpAny_holding ?_)); unfold callGetattribute
  rw [e0, if_neg Bool.false_ne_true]; unfold boundAndCalled
  rw [PySem.F.excAttr_ValueError.ga.bind (.ref x)]; refine wpAny_bind (wpAny_pure ?_)
  show wpAny _ _ (call (.builtin "BaseException.__getattribute__") [.ref x, .str "__class__" tt]) _ _ _
  refine wpAny_call (codeAny_call_builtin PySem.F.excAttr_ValueError.ga.plain PySem.F.entry_bexc_ga ?_)
  refine @check_slot (model prog w) _ _ ⟨hp, gg, dd, tt + 1, oo⟩ "BaseException.__getattribute__" "BaseException" "__getattribute__" (.ref x) [.str "__class__" tt] [] _ (by decide +kernel) (by decide +kernel) hisB (PySem.F.args_bexc_ga (.ref x) (.str "__class__" tt)) ?_
  unfold Builtin.«object.__getattribute__»
  refine wpAny_bind (wpAny_of_eq (a := ((Value.ref x : Value), [Value.str "__class__" tt])) (by first | rfl | (simp only [slotArgs]; rfl)) ?_)
  refine wpAny_bind (wpAny_pure (wpAny_bind (M0.at (wpAny_bind (M3.at ?_)))))
  show wpAny _ _ (holding [Value.builtin "object.__class__"] (call (.builtin "getset_descriptor.__get__") [.builtin "object.__class__", .ref x, .ref D]) >>= ret) _ _ _
  refine wpAny_bind (wpAny_holding (wpAny_call (class_get (s := ⟨hp, gg, dd, tt + 1, oo⟩) (ox := ox) (od := od) KX J hm ?_))); refine wpAny_pure ?_
  show wpAny _ _ (handedOut (.ref D)) _ _ _
  rw [handedOut_of (v := .ref D) rfl]
  first | exact wpAny_pure (wpAny_pure hq) | exact wpAny_pure hq | exact wpAny_pure (wpAny_bind (wpAny_pure (wpAny_pure hq)))
theorem fs_kitx (hga : findIn K (.ref D) "__getattribute__" = some (some (.builtin "BaseException.__getattribute__"))) (hgt : findIn K (.ref D) "__getattr__" = some none) (hsub : subIn K (.ref D) (.type "BaseException") = some true) (hdct : hasDictIn K D = true) (ha : findIn K (.ref D) "__class__" = some (some (.builtin "object.__class__")))
    (hn : specialIn K (.builtin "object.__class__") "__get__" = some (some (.builtin "getset_descriptor.__get__"))) (htk : takesIn K (.builtin "object.__class__") = some true) (hm : mroIn K D (.type "object") = some true) :
    KitX K (.ref x) (.ref D) (fun h => ∃ ox od, InstAt h x ox D od) where
  ty := fun _ _ _ ⟨_, _, J⟩ => J.type
  it := fun _ _ KX _ => by
    obtain ⟨cc, hcc, _⟩ := any_some hdct
    unfold clsIn at hcc
    split at hcc
    · rename_i hlook
      intro A1 Q1 E1 s1 kk qq; unfold isType loadHead
      exact wpAny_bind (wpAny_loadPart (kk _ _ (KX _ _ hlook)) (wpAny_pure qq))
    · cases hcc
  ne := fun hh tp dd its nn sl KX htp => by
    obtain ⟨cc, hcc, _⟩ := any_some hdct
    refine Bool.eq_false_iff.mpr fun qq => ?_
    have eD : D = tp := Value.ref.inj (beq_iff_eq.mp qq)
    subst eD; unfold clsIn at hcc
    split at hcc
    · rename_i hlook
      have zz := (KX _ _ hlook).symm.trans htp; cases zz
    · cases hcc
  ca := fun KX ⟨_, _, J⟩ kk => fs_class hga hgt hsub hdct ha hn htk hm KX J kk
end
end PySem.W
namespace FS
open PySem PySem.Spec PyProof.Rows L2
/-! ### made -/
/-- C(e, ..) as a value, C's own __init__ keeping sp -/
def tMkV (C : Addr) (sp : Sp) (dvs : List V) (ta : TA) : TE := fun σ H Q => ta σ H fun vs H1 => vs.length ≤ 1000 ∧ ∀ a, H1 a = none →
  sp (.ref a :: (vs ++ dvs)) (upd H1 a (exo a C none)) (fun v H2 => v = .non ∧ Q (.ref a) H2) (fun _ _ _ => False)
section
variable {X : Cx} {e : Expr} {es : List Expr} {te : TE} {ta : TA} {p pos : Pos}
theorem pe_mkV {CX : CXT} {x : Str} {C fI : Addr} {k : Nat} {fd : FuncData} {ps : List Str} {sp : Sp} {ds : List Value} {dvs : List V} (T : OexC X.K C) (iC : PySem.W.findIn X.K (.ref C) "__init__" = some (some (.ref fI))) (tI : PySem.W.typeIn X.K (.ref fI) = some (.type "function"))
    (F1 : FnOk X.prog X.w X.K X.mg X.base CX k fI fd ps sp) (hr : Room (k + 1) X.A) (hb : Binds X.K fd ps ds) (hd : Vals dvs ds) (hx : Passes CX X (fun _ _ _ => False)) (hg : Gl X x) (hm : X.mg x = some (.ref C)) (ha : PA X (e :: es) ta)
    (hdb : (x == ("__debug__" : Str)) = false := by decide) (he : starEach (e :: es) X.env = (false, eval e X.env) :: starEach es X.env := by rfl) (hpl : (backTo pos (starEach es X.env)).any (·.1) = false := by rfl) :
    PE X (.Call (.Name x p) (e :: es) [] pos) (tMkV C sp dvs ta) := by
  refine ⟨fun pins st0 σ H Q I h => ?_⟩
  obtain ⟨nm, q, N, bs, bm, sn, sub, ab, col, dd, k0, k1, k2, k3, k5, hC, hbm⟩ := T.cls
  refine wpAny_Call_Name_kw (ld_glob I hg hm ?_ hdb)
  refine PySem.W.callWith_K (h₀ := X.base) I.ok.mod.kin T.kC (thn (ha.run pos pins st0 σ H _ I h) fun us s1 ⟨vs, H1, I1, r1, hz, q1⟩ => ⟨I1.kIn, ?_⟩) he hpl
  show wpAny _ _ (call (.ref C) us) _ _ _
  obtain ⟨hp, g, dr, tk, os⟩ := s1
  have hsz1 : hp.objs.size ≤ hp.objs.size + 1 := Nat.le_succ _
  have hn1 : H1 (hp.objs.size + 1) = none := I1.hok.fresh hsz1
  have hq1 := q1 (hp.objs.size + 1) hn1
  have kk1 : ∀ b o, hp.get? b = some o → ((hp.push (PySem.W.kdv_tup us)).push (PySem.HandSPX.excO C hp.objs.size)).get? b = some o := fun b o eo => Heap.get?_push_of_some _ (Heap.get?_push_of_some _ eo)
  have hget1 : ((hp.push (PySem.W.kdv_tup us)).push (PySem.HandSPX.excO C hp.objs.size)).get? (hp.objs.size + 1) = some (PySem.HandSPX.excO C hp.objs.size) := by heap_get
  have J2 : Inv X pins σ (upd H1 (hp.objs.size + 1) (exo (hp.objs.size + 1) C none)) ⟨(hp.push (PySem.W.kdv_tup us)).push (PySem.HandSPX.excO C hp.objs.size), g, dr, tk, os⟩ :=
    I1.laid (t' := tk) (a := hp.objs.size + 1) (o := exo (hp.objs.size + 1) C none) (h' := (hp.push (PySem.W.kdv_tup us)).push (PySem.HandSPX.excO C hp.objs.size)) kk1 hsz1 (exo_ok hget1)
  have rr2 : Vals (V.ref (hp.objs.size + 1) :: (vs ++ dvs)) (Value.ref (hp.objs.size + 1) :: (us ++ ds)) := .cons rfl (r1.append hd)
  have hl1 : (Value.ref (hp.objs.size + 1) :: us ++ ds).length = ps.length := by
    have e9 := rr2.length
    rw [F1.len _ _ _ _ hq1] at e9; exact e9.symm
  have hus1 : us.length ≤ sizeLine := by
    rw [← Paired.length r1, sizeLine_eq]; omega
  refine wpAny_call (PySem.HandSPX.call_own F.excBase_ValueError (fun Y => PySem.HandSPX.refsVE_contains Y bm hbm) (I1.kIn _ _ hC) (PySem.W.looks_findIn I1.kIn iC) (fun self => PySem.W.bind_fn I1.kIn self tI) hus1
    (codeAny_mono (F1.run _ X.stack _ _ ⟨Value.ref (hp.objs.size + 1) :: us, []⟩ (Value.ref (hp.objs.size + 1) :: (us ++ ds)) _ _ (fun _ _ _ => False) (hr.make C us []) (J2.env0.make C us []) (hb _ (Value.ref (hp.objs.size + 1) :: us) J2.kIn hl1) rr2 hq1) fun r s' hq' => ?_))
  cases r with
  | error er => exact hx pins σ _ _ er s' J2 hq'
  | ok fl =>
    cases fl with
    | ret u =>
      obtain ⟨v, H2, os2, bare2, un2, hok2, rv, ev, q2⟩ := hq'
      subst ev
      exact ⟨rv, .ref (hp.objs.size + 1), H2, J2.call' (ch := []) os2 un2 hok2 bare2 (fun b z => absurd z (by simp)), rfl, q2⟩
    | next => exact False.elim hq'
    | brk => exact False.elim hq'
    | cont => exact False.elim hq'
/-! ### read -/
def tXo (K : PySem.W.Frag) (f : Str) (te : TE) : TE := fun σ H Q => te σ H fun x H1 => ∃ (a C dd : Addr) (fs : List (Str × V)) (v : V), x = .ref a ∧ H1 a = some (exo a C (some dd)) ∧ H1 dd = some (exd dd fs) ∧ XfC K C ∧ PySem.W.findIn K (.ref C) f = some none ∧ fs.lookup f = some v ∧ Q v H1
theorem pe_xo {n : Str} (he : PE X e te) (hb : attributeBase e n X.env (eval e X.env) = eval e X.env := by rfl) : PE X (.Attribute e n pos) (tXo X.K n te) := by
  refine ⟨fun pins s σ H Q I h => ?_⟩
  refine attr_of hb (thn (he.run pins s σ H _ I h) fun u s1 hh => ?_)
  obtain ⟨x, H1, I1, rx, a, C, dd, fs, v, ex, ea, ed, T, hno, l, q⟩ := hh
  subst ex
  obtain rfl : u = Value.ref a := rx
  obtain ⟨t1, ho⟩ := exo_at I1.hok ea
  obtain ⟨mA, hns, hr⟩ := exd_at I1.hok ed
  obtain ⟨od, hod, hl⟩ := lookIn_ns hns
  obtain ⟨u, hu, ru⟩ := RelO.some_of (v := v) (o := mA n) (by rw [← l]; exact hr n)
  have J : PySem.W.InstAt s1.heap a { cls := .ref C, dict := some dd, data := .fields #[.ref t1, .none, .none, .none, .bool false, .none] } C (some od) := ⟨ho, rfl, rfl, hod⟩
  exact HandSPX.exc_get I1.kIn J T.ga T.gg T.exC (PySem.W.findObj_own T.hdC hno rfl (by rw [hl, hu])) (handed_of ru) ⟨v, H1, I1.tok _, ru, q⟩
end
/-! ### isinstance -/
def rIsO (K : PySem.W.Frag) : List V → Hp → VK → Prop := fun xs H Q => ∃ (a C d : Addr) (fs : List (Str × V)) (c : V) (cv : Value) (b : Bool), xs = [.ref a, c] ∧ H a = some (exo a C (some d)) ∧ H d = some (exd d fs) ∧ ExcC K C ∧ (∀ u, RelV c u → u = cv) ∧ PySem.W.kitOne K (.ref C) cv = some b ∧ Q (.bl b) H
theorem call_isO {X : Cx} : CallR X (.builtin "isinstance") (rIsO X.K) := by
  intro pins s σ H xs us Q I r h
  obtain ⟨a, C, d, fs, c, cv, b, rfl, ea, ed, T, hcv, e, q⟩ := h
  obtain ⟨u1, u2, rfl, r1, r2⟩ := vals2 r
  cases (show u1 = Value.ref a from r1)
  have ec := hcv _ r2
  subst ec
  obtain ⟨t1, ho⟩ := exo_at I.hok ea
  obtain ⟨mA, hns, hr⟩ := exd_at I.hok ed
  obtain ⟨od, hod, hl⟩ := lookIn_ns hns
  have J : PySem.W.InstAt s.heap a { cls := .ref C, dict := some d, data := .fields #[.ref t1, .none, .none, .none, .bool false, .none] } C (some od) := ⟨ho, rfl, rfl, hod⟩
  exact PySem.W.kia_one (PySem.W.fs_kitx T.hg T.hk T.hs T.hd T.ha T.hn T.ht T.hm) I.kIn ⟨_, _, J⟩ e (fun z => nomatch z) fun tk => ⟨.bl b, H, I.tok tk, rfl, q⟩
/-! ### repr of a list of plain values (an empty dict among them, not deeper) -/
inductive Dq (K : PySem.W.Frag) (H : Hp) : V → PyData → Prop
  | dp {v : V} {d : PyData} : Dp K H v d → d.hasDict = false → Dq K H v d
  | emp {a : Addr} : H a = some (.dK []) → Dq K H (.ref a) (.dict [])
inductive DqAll (K : PySem.W.Frag) (H : Hp) : List V → List PyData → Prop
  | nil : DqAll K H [] []
  | cons {v : V} {vs : List V} {d : PyData} {ds : List PyData} : Dq K H v d → DqAll K H vs ds → DqAll K H (v :: vs) (d :: ds)
section
variable {X : Cx} {pins : List (Addr × Obj)} {σ : L2.St} {H : Hp} {s : Shared}
theorem Dq.repr (I : Inv X pins σ H s) {v : V} {d : PyData} {u : Value} (h : Dq X.K H v d) (r : RelV v u) (hs : d.showable = true) (hz : d.shown.length ≤ sizeLine) :
    ∃ as bs, Reads s.heap u d as ∧ ReadAtMost s.heap d.depth bs ∧ ReprK X.prog X.w bs s.heap d.depth u d.shown := by
  cases h with
  | dp h hd =>
    obtain ⟨as, rd⟩ := Dp.reads I d v u h r
    obtain ⟨bs, h1, h2⟩ := ReprK.of_reads (prog := X.prog) (w := X.w) rd hs (PyData.noDict_hsm hd) hz
    exact ⟨as, bs, rd, h1, h2⟩
  | @emp a ea =>
    cases (show u = Value.ref a from r)
    obtain ⟨_, hsm, vs, kv, o, es, ep, h1, h2, h3, _, h4, _⟩ := (show ObjOk X.prog X.w H s.heap a (.dK []) from I.hok a _ ea)
    cases kv
    have e0 : es.toList = [] := by
      cases hq : es.toList with
      | nil => rfl
      | cons x xs =>
        rw [hq] at h4
        first | exact absurd h4 (by simp [Pairs]) | cases h4
    have rd : Reads s.heap (.ref a) (.dict []) (a :: [] ++ []) := .dict (kvs := []) h1 h2.1 h3 (by rw [e0]; exact .nil) (by rw [e0]; exact .nil)
    obtain ⟨bs, q1, q2⟩ := ReprK.of_reads (prog := X.prog) (w := X.w) rd hs (fun _ hm => by
      have : sysModules = a := by simpa using hm
      rw [this] at hsm
      simp at hsm) hz
    exact ⟨_, bs, rd, q1, q2⟩
theorem DqAll.repr (I : Inv X pins σ H s) : ∀ {vs : List V} {ds : List PyData} {us : List Value}, DqAll X.K H vs ds → Vals vs us → PyData.showableAll ds = true → (∀ t ∈ PyData.shownAll ds, t.length ≤ sizeLine) →
    ∃ as bs, ReadsAll s.heap us ds as ∧ ReadAtMost s.heap (PyData.depthAll ds) bs ∧ ReprAllK X.prog X.w bs s.heap (PyData.depthAll ds) us (PyData.shownAll ds)
  | _, _, _, .nil, .nil, _, _ => ⟨[], [], .nil, (fun _ h => nomatch h), by simp only [PyData.shownAll]; exact .nil⟩
  | _, _, _, .cons (d := d) (ds := ds) h hl, .cons r rl, hs, hz => by
    have hs2 : d.showable = true ∧ PyData.showableAll ds = true := by simpa [PyData.showableAll] using hs
    obtain ⟨a1, c1, rd1, q1, k1⟩ := Dq.repr I h r hs2.1 (hz _ (by simp only [PyData.shownAll]; exact List.mem_cons_self ..))
    obtain ⟨a2, c2, rd2, q2, k2⟩ := DqAll.repr I hl rl hs2.2 (fun t ht => hz t (by simp only [PyData.shownAll]; exact List.mem_cons_of_mem _ ht))
    refine ⟨_, c1 ++ c2, .cons rd1 rd2, ?_, ?_⟩
    · simp only [PyData.depthAll]
      exact (q1.mono (Nat.le_max_left _ _)).append (q2.mono (Nat.le_max_right _ _))
    · simp only [PyData.depthAll, PyData.shownAll]
      exact .cons ((k1.more fun b hb => List.mem_append_left _ hb).level_le (Nat.le_max_left _ _)) (k2.more_le (fun b hb => List.mem_append_right _ hb) (Nat.le_max_right _ _))
end
def rReprL (K : PySem.W.Frag) : List V → Hp → VK → Prop := fun xs H Q => ∃ (a : Addr) (v : V) (vs : List V) (ds : List PyData), xs = [.ref a] ∧ H a = some (.lst (v :: vs)) ∧ DqAll K H (v :: vs) ds ∧ PyData.showableAll ds = true ∧ PyData.depthAll ds ≤ 30 ∧
  (listText (PyData.shownAll ds)).length ≤ sizeLine ∧ Q (.str (listText (PyData.shownAll ds))) H
theorem call_reprL {X : Cx} (hg : X.A.guards = some []) (hu : X.A.units + 64 < cLine) : CallR X (.builtin "repr") (rReprL X.K) := by
  intro pins s σ H xs us Q I r h
  obtain ⟨a, v, vs, ds, rfl, ea, hd, hs, hdep, hz, q⟩ := h
  cases r with
  | cons ra rn =>
    cases rn
    rename_i u1
    cases (show u1 = Value.ref a from ra)
    obtain ⟨_, its, n, rv, ho⟩ := (show ObjOk X.prog X.w H s.heap a (.lst (v :: vs)) from I.hok a _ ea)
    cases rv with
    | @cons _ u _ ul r1 r2 =>
      obtain ⟨as, bs, rd, hb, hk⟩ := DqAll.repr I hd (.cons r1 r2) hs (fun t ht => Nat.le_trans (listText_mem_le ht) hz)
      have rr : Reads s.heap (.ref a) (.list ds) (a :: as) := .list ho rfl rfl rd
      have hna : a ∉ bs := not_mem_of_deeper rr (by simp only [PyData.depth]; omega) hb
      refine call_repr_slot (by omega) ⟨_, ho, rfl⟩ F.slot_list_repr.toG ?_
      exact call_list_reprK ho rfl rfl hna (by simpa using hk.length_eq) (fun i y e => hk.item i y (by simpa using e)) hg (fun b _ => Clear.nil b) (by show X.A.units + 1 + _ < cLine; omega) (fun _ _ e => e)
        (fun h' t tk hk' => ⟨_, _, rfl, .str (listText (PyData.shownAll ds)), H, I.kept (t' := tk) hk', ⟨_, rfl⟩, q⟩) hz
end FS

set_option Elab.async false
set_option linter.all false
set_option maxRecDepth 100000
set_option maxHeartbeats 4000000
/-! The law's own def is called where no guard stands: its promise may use that (repr of lists asks it). -/
namespace FS
open PySem PySem.Spec PyProof.Rows L2
structure FnG (P : Program) (w : World) (K : PySem.W.Frag) (mg : Str → Option Value) (base : Heap) (k : Nat) (f : Addr) (fd : FuncData) (ps : List Str) (sp : Sp) : Prop where
  len : ∀ vs H Q E, sp vs H Q E → vs.length = ps.length
  run : ∀ (A : Around) (out1 : List Env) (st1 : Shared) (H : Hp) (args : Args) (us : List Value) (vs : List V) (Q : VK) (E : XK), A.guards = some [] → Room k A → Env0 P w K mg base A out1 st1 H → BindsTo st1 fd args (ps.zip us) → Vals vs us → sp vs H Q E →
    codeAny (model P w) A (.call (.ref f) args) (CR CX0 out1 P w H st1 Q E) st1
section
variable {P : Program} {w : World} {K : PySem.W.Frag} {mg : Str → Option Value} {base : Heap}
theorem okG {x qual : Str} {st : Stmt} {f : Addr} {fd : FuncData} {N ps : List Str} {k : Nat} {sp : Sp} (F : Fun K x qual st f fd) (S : FnScope N ps (defScope st)) (hlen : ∀ vs H Q E, sp vs H Q E → vs.length = ps.length)
    (hbd : ∀ (cdv : Value) (A : Around) (out1 : List Env) (st1 : Shared) (H : Hp) (vs : List V) (Q : VK) (E : XK), (A.deeper (envOfC qual (defScope st) st1.heap.objs.size f cdv)).guards = some [] → Room k (A.deeper (envOfC qual (defScope st) st1.heap.objs.size f cdv)) → sp vs H Q E →
      ∃ t, PSs (cxOf CX0 P w K mg base N qual (defScope st) f cdv A out1 st1 H E).nox (defBody st) t ∧ t { nx := fun _ H' => Q .non H', rt := Q } (start N vs) H) : FnG P w K mg base (k + 1) f fd ps sp := by
  obtain ⟨oc, od, kV, doc, pm, an, cdv, ct, osl, rfl, lk, hcd⟩ := F.ex
  refine ⟨hlen, fun A out1 st1 H args us vs Q E hgd hr1 en0 hb1 rv1 hsp1 => ?_⟩
  have hl1 := hlen _ _ _ _ hsp1
  have KX1 : K.In st1.heap := en0.mod.kin.keeps fun b1 o1 e1 => (en0.bs b1 o1 e1).1
  have lim1 : st1.heap.NoLimit := en0.mod.nolimit.keeps fun b1 o1 e1 => (en0.bs b1 o1 e1).1
  have hknd : ∀ y1 ∈ ps.zip us, (defScope st).names.lookup y1.1 = some .local ∨ ((defScope st).names.lookup y1.1 = some .cell ∧ ((cellsFrom (st1.heap.objs.size + 1) (defScope st).names []).lookup y1.1).isSome = true) := fun ⟨n1, v1⟩ hy1 => by
    rcases S.par n1 (List.of_mem_zip hy1).1 with q1 | q1
    · exact .inl q1
    · exact .inr ⟨q1, PySem.W.cellsFrom_some _ _ _ (.inl q1)⟩
  refine codeAny_call_function hr1.depth (KX1 _ _ lk) rfl S.co S.gen rfl (PySem.W.codeRec_of KX1 hcd) (hb1 _ _ _ _ ?_)
  refine wpAny_newFunctionEnv_cells S.kind hknd fun env1 he1 st2 x1 => ?_
  subst he1; refine ⟨lim1.keeps x1.toInCall.keep, codeAny_func ?_⟩
  obtain ⟨t, ht0, hq1⟩ := hbd cdv A out1 st1 H vs Q E hgd (hr1.deeper _) hsp1
  have ht := ht0.nox
  have I1 : Inv (cxOf CX0 P w K mg base N qual (defScope st) f cdv A out1 st1 H E) [] (start N vs) H st2 := inv_start S hr1.hd en0 hl1 rv1 x1
  refine wpAny_mono (ht.run [] st2 (start N vs) H _ I1 hq1) (fun fl st3 hs1 => ?_) fun _ st3 hs1 => hs1
  have done1 : ∀ {σ1 : L2.St} {H1 : Hp} {v : V} {u : Value}, Inv (cxOf CX0 P w K mg base N qual (defScope st) f cdv A out1 st1 H E) [] σ1 H1 st3 → RelV v u → Q v H1 → CE out1 P w H st1 Q u st3 :=
    fun {σ1 H1 v u} J1 rv q1 => ⟨v, H1, J1.os, J1.bare, J1.base, J1.hok, rv, q1⟩
  cases fl with
  | ret u => obtain ⟨v, σ1, H1, J1, rv, q1⟩ := hs1; exact done1 J1 rv q1
  | next => obtain ⟨σ1, H1, J1, q1⟩ := hs1; exact done1 (v := V.non) (u := Value.none) J1 rfl q1
  | brk => obtain ⟨_, _, _, q1⟩ := hs1; exact False.elim q1
  | cont => obtain ⟨_, _, _, q1⟩ := hs1; exact False.elim q1
theorem law_callG {mb : Str → Option Value} {k : Nat} {fa a : Addr} {fd : FuncData} {x : Str} {sp : Sp} {st1 : Shared} {vs : List Value} {ns : List Int}
    (KX : K.In st1.heap) (hns : st1.heap.Ns mainGlobals mg) (hbl : st1.heap.Ns builtinsNs mb) (hbb : ∀ x : Str, x ≠ "__name__" → mb x = bootBuiltins x) (hlim : st1.heap.NoLimit) (hgn : st1.gens = #[])
    (hat : st1.heap.get? a = some { cls := .type "list", data := .seq vs.toArray }) (hi : IntsAre vs ns) (hl : ns.length ≤ sizeLine) (hr1 : Room k callerA)
    (F : ∀ base : Heap, K.In base → base.Ns mainGlobals mg → FnG P w K mg base k fa fd [x] sp) (hbind : ∀ (s : Shared) (u : Value), BindsTo s fd ⟨[u], []⟩ [(x, u)])
    (hsp1 : ∀ H : Hp, Only H → SqL K H a (ns.map V.int) → sp [.ref a] H (fun v _ => v = .bl true) fun _ _ _ => False) :
    codeAny (model P w) callerA (.call (.ref fa) ⟨[.ref a], []⟩) (fun r s' => r = .ok (.ret (.bool true)) ∧ OldK st1.heap s'.heap ∧ s'.os = st1.os ∧ AllBare s'.gens) st1 := by
  have rv1 := vals_ints hi
  have lenV1 := hi.length
  have core1 : ∀ H : Hp, Only H → SqL K H a (ns.map V.int) → HOk P w H st1.heap → (∀ b1, H b1 ≠ none → b1 = a) → (H a ≠ none → K.lookup a = none) →
      codeAny (model P w) callerA (.call (.ref fa) ⟨[.ref a], []⟩) (fun r s' => r = .ok (.ret (.bool true)) ∧ OldK st1.heap s'.heap ∧ s'.os = st1.os ∧ AllBare s'.gens) st1 := by
    intro H hO1 hS1 hok1 hA1 hK1
    have base1 : ∀ {b1 : Addr} {o1 : Obj}, st1.heap.get? b1 = some o1 → H b1 = none → (hidT st1.heap H).get? b1 = some o1 := fun e1 n1 => hidT_get e1 n1
    have noA1 : ∀ {b1 : Addr} {o1 : Obj} {es1 : Array DictEntry} {ep1 : Nat}, st1.heap.get? b1 = some o1 → o1.data = .dict es1 ep1 → H b1 = none := fun {b1 o1 es1 ep1} e1 d1 => by
      cases q1 : H b1 with
      | none => rfl
      | some u1 =>
        have e2 : b1 = a := hA1 b1 (by rw [q1]; simp)
        subst e2; rw [hat] at e1; cases e1
        have d2 : Data.seq vs.toArray _ = Data.dict es1 ep1 := d1
        cases d2
    have nsK1 : ∀ {b1 : Addr} {m : Str → Option Value}, st1.heap.Ns b1 m → (hidT st1.heap H).Ns b1 m := fun {b1 m} ⟨o1, es1, ep1, e1, d1, r1⟩ => ⟨o1, es1, ep1, base1 e1 (noA1 e1 d1), d1, r1⟩
    have hKb1 : K.In (hidT st1.heap H) := fun b1 o1 e1 => base1 (KX b1 o1 e1) (by
      cases q1 : H b1 with
      | none => rfl
      | some u1 =>
        have e2 : b1 = a := hA1 b1 (by rw [q1]; simp)
        subst e2; rw [hK1 (by rw [q1]; simp)] at e1; cases e1)
    have hM1 : Mod K mg (hidT st1.heap H) := ⟨hKb1, nsK1 hns, ⟨mb, nsK1 hbl, hbb⟩, let ⟨mc, h1, h2⟩ := hlim; ⟨mc, nsK1 h1, h2⟩⟩
    have en0 : Env0 P w K mg (hidT st1.heap H) callerA [] st1 H := ⟨rfl, hM1, fun b1 o1 e1 => of_hidT e1, Nat.le_of_eq (hidT_size _ _), trivial, fun b1 hb1 => absurd (show b1 ∈ ([] : List Addr) from hb1) (by simp), hok1, .of_eq hgn⟩
    refine codeAny_mono ((F _ hKb1 (nsK1 hns)).run callerA [] st1 H ⟨[.ref a], []⟩ [.ref a] [.ref a] _ _ rfl hr1 en0 (hbind st1 (.ref a)) (.cons rfl .nil) (hsp1 H hO1 hS1)) fun r s' h1 => ?_
    cases r with
    | error e1 => exact False.elim h1
    | ok fl =>
      cases fl with
      | next => exact False.elim h1
      | brk => exact False.elim h1
      | cont => exact False.elim h1
      | ret u1 =>
        obtain ⟨v1, H1, os1, bare1, un1, hok2, r1, q1⟩ := h1
        have q2 : v1 = .bl true := q1
        subst q2; obtain rfl : u1 = Value.bool true := r1
        refine ⟨rfl, OldK.of_keep fun b1 o1 e1 => ?_, os1, bare1⟩
        cases q3 : H b1 with
        | none => exact un1.keep b1 o1 e1 q3 (by intro z; exact absurd (show b1 ∈ ([] : List Addr) from z) (by simp)) (by simp)
        | some u2 =>
          rcases hO1 b1 with z1 | ⟨ob1, xs1, z1⟩
          · rw [q3] at z1; cases z1
          · have z2 := un1.frzs b1 ob1 _ z1
            obtain ⟨e3, _⟩ := hok1 b1 _ z1; obtain ⟨e4, _⟩ := hok2 b1 _ z2
            rw [e1] at e3; cases e3; exact e4
  cases hk1 : K.lookup a with
  | some o1 =>
    have e1 := KX a o1 hk1
    rw [hat] at e1; cases e1
    refine core1 (fun _ => none) (fun _ => .inl rfl) (.inr ⟨_, vs.toArray, _, hk1, rfl, rfl, rfl, by rw [List.size_toArray, lenV1]; exact hl, by simpa using rv1⟩) (fun b1 u1 z1 => by have z2 : (none : Option HO) = some u1 := z1; cases z2) (fun b1 z1 => absurd rfl z1) fun z1 => absurd rfl z1
  | none =>
    refine core1 (fun b1 => if b1 = a then some (.frz { cls := .type "list", data := .seq vs.toArray } (.lst (ns.map V.int))) else none) (fun b1 => ?_) (.inl (.inr ⟨{ cls := .type "list", data := .seq vs.toArray }, if_pos rfl⟩)) (fun b1 u1 z1 => ?_) (fun b1 z1 => ?_) fun _ => hk1
    · by_cases hb1 : b1 = a
      · exact .inr ⟨_, _, if_pos hb1⟩
      · exact .inl (if_neg hb1)
    · by_cases hb1 : b1 = a
      · have z2 := (if_pos hb1).symm.trans z1
        cases z2; subst hb1
        exact ⟨hat, by rw [List.length_map]; exact hl, vs, _, rv1, hat⟩
      · have z2 := (if_neg hb1).symm.trans z1
        cases z2
    · by_cases hb1 : b1 = a
      · exact hb1
      · exact absurd (if_neg hb1) z1
end
theorem walk_G {l : PySem.W.OpenLaw} {n k : Nat} {qp : Program} {loose : List Str} {XP : (Str → Option Value) → Heap → Prop} {YP : World → Heap → Prop} {dr : DefRec} {KK : Params → PySem.W.Frag} {sp : World → Sp} {x : Str}
    (hn : l.most = some n) (hn2 : n ≤ sizeLine) (hdf : dr.params.defaults = []) (hr1 : Room k callerA) (hY : ∀ (w : World) (h : Heap), YP w h → (KK w.params).In h)
    (F : ∀ (w : World) (mg : Str → Option Value) (fa : Addr) (h : Heap), (KK w.params).In h → h.Ns mainGlobals mg → mg dr.name = some (.ref fa) →
      ∃ fd : FuncData, (∀ (s : Shared) (u : Value), BindsTo s fd ⟨[u], []⟩ [(x, u)]) ∧ ∀ base : Heap, (KK w.params).In base → base.Ns mainGlobals mg → FnG l.prog w (KK w.params) mg base k fa fd [x] (sp w))
    (hsp1 : ∀ (w : World) (H : Hp) (a : Addr) (ns : List Int), ns.length ≤ n → Only H → SqL (KK w.params) H a (ns.map V.int) → sp w [.ref a] H (fun v _ => v = .bl true) fun _ _ _ => False) :
    PySem.W.WalkO qp loose XP YP l.row.toRowW dr [] (fun f vs => PySem.call f vs) := by
  refine Att.attach_call hn hdf fun w s0 st1 mg mb fa o pm cd doc a vs ns G Y ho hd hcd hmg hobj hints hlen hgn => ?_
  have KX1 := hY w _ Y
  obtain ⟨fd, hb1, hF1⟩ := F w mg fa _ KX1 G.T.g hmg
  exact law_callG KX1 G.T.g G.T.b G.T.builtins G.T.nolimit hgn hobj hints (Nat.le_trans hlen hn2) hr1 hF1 hb1 (fun H hO1 hS1 => hsp1 w H a ns hlen hO1 hS1)
end FS

set_option Elab.async false
set_option linter.all false
set_option maxRecDepth 100000
set_option maxHeartbeats 4000000
/-! What both laws on errors use: an error's class, a made error, plain values that repr shows, isinstance over a list of errors. -/
namespace FS
open PySem PySem.Spec PyProof.Rows L2
/-! ### heaps -/
theorem same_new {H : Hp} {p : Addr} {o : HO} (h : H p = none) : Same H (upd H p o) := fun b x e => by
  rw [upd_ne (ne_of_none e h)]; exact e
/-- all but p as it was -/
def Off (p : Addr) (H H' : Hp) : Prop := ∀ b o, b ≠ p → H b = some o → H' b = some o
theorem Off.of {p : Addr} {H H' : Hp} (h : Same H H') : Off p H H' := fun b o _ e => h b o e
theorem Off.trans {p : Addr} {H H1 H2 : Hp} (h : Off p H H1) (k : Off p H1 H2) : Off p H H2 := fun b o n e => k b o n (h b o n e)
theorem Off.put {p : Addr} {H : Hp} {o : HO} : Off p H (upd H p o) := fun b x n e => by rw [upd_ne n]; exact e
theorem Off.same {p : Addr} {H H1 H2 : Hp} (h : Same H H1) (hp : H p = none) (k : Off p H1 H2) : Same H H2 := fun b o e => k b o (ne_of_none e hp) (h b o e)
/-! ### plain values -/
mutual
theorem Dp_mono {K : PySem.W.Frag} {H H' : Hp} (s : Same H H') : ∀ (d : PyData) (v : V), Dp K H v d → Dp K H' v d
  | .none, _, h => by cases h; exact .non
  | .bool b, _, h => by cases h; exact .bl b
  | .int i, _, h => by cases h; exact .int i
  | .str x, _, h => by cases h; exact .str x
  | .list ds, _, h => by
    cases h with
    | lst hs ha => exact .lst (s.seq hs) (DpAll_mono s ds _ ha)
  | .tuple ds, _, h => by
    cases h with
    | tup hs ha =>
      refine .tup ?_ (DpAll_mono s ds _ ha)
      rcases hs with (h | ⟨o, h⟩) | h
      · exact .inl (.inl (s _ _ h))
      · exact .inl (.inr ⟨o, s _ _ h⟩)
      · exact .inr h
  | .dict _, _, h => by cases h
theorem DpAll_mono {K : PySem.W.Frag} {H H' : Hp} (s : Same H H') : ∀ (ds : List PyData) (vs : List V), DpAll K H vs ds → DpAll K H' vs ds
  | [], _, h => by cases h; exact .nil
  | d :: ds, _, h => by
    cases h with
    | cons h1 h2 => exact .cons (Dp_mono s d _ h1) (DpAll_mono s ds _ h2)
end
/-- a value that repr shows shortly -/
def Nice (K : PySem.W.Frag) (H : Hp) (v : V) (d : PyData) : Prop := Dq K H v d ∧ d.showable = true ∧ d.depth ≤ 5 ∧ d.shown.length ≤ 40
theorem Dq_mono {K : PySem.W.Frag} {H H' : Hp} {v : V} {d : PyData} (s : Same H H') (h : Dq K H v d) : Dq K H' v d := by
  cases h with
  | dp h hd => exact .dp (Dp_mono s d v h) hd
  | emp h => exact .emp (s _ _ h)
theorem Nice.mono {K : PySem.W.Frag} {H H' : Hp} {v : V} {d : PyData} (s : Same H H') (h : Nice K H v d) : Nice K H' v d := ⟨Dq_mono s h.1, h.2⟩
inductive NiceAll (K : PySem.W.Frag) (H : Hp) : List V → List PyData → Prop
  | nil : NiceAll K H [] []
  | cons {v : V} {vs : List V} {d : PyData} {ds : List PyData} : Nice K H v d → NiceAll K H vs ds → NiceAll K H (v :: vs) (d :: ds)
theorem NiceAll.dq {K : PySem.W.Frag} {H : Hp} : ∀ {vs : List V} {ds : List PyData}, NiceAll K H vs ds → DqAll K H vs ds
  | _, _, .nil => .nil
  | _, _, .cons h t => .cons h.1 t.dq
theorem NiceAll.show {K : PySem.W.Frag} {H : Hp} : ∀ {vs : List V} {ds : List PyData}, NiceAll K H vs ds → PyData.showableAll ds = true
  | _, _, .nil => by simp [PyData.showableAll]
  | _, _, .cons h t => by simp only [PyData.showableAll, h.2.1, t.show, Bool.and_self]
theorem NiceAll.depth {K : PySem.W.Frag} {H : Hp} : ∀ {vs : List V} {ds : List PyData}, NiceAll K H vs ds → PyData.depthAll ds ≤ 30
  | _, _, .nil => by simp [PyData.depthAll]
  | _, _, .cons h t => by
    simp only [PyData.depthAll]
    have h1 := h.2.2.1
    have h2 := t.depth
    omega
theorem text_len : ∀ (ts : List Str) (k : Nat) (acc : Str), (∀ t ∈ ts, t.length ≤ 40) → (textFrom k acc ts).length ≤ acc.length + 42 * ts.length
  | [], k, acc, _ => Nat.le_refl _
  | t :: r, k, acc, h => by
    have h1 := h t (List.mem_cons_self ..)
    have h2 : (Str.ofString "").length = 0 := by decide
    have h3 : (Str.ofString ", ").length = 2 := by decide
    unfold textFrom
    refine Nat.le_trans (text_len r _ _ (fun x hx => h x (List.mem_cons_of_mem _ hx))) ?_
    rw [List.length_cons]
    repeat rw [strLen_append]
    split <;> omega
theorem NiceAll.len {K : PySem.W.Frag} {H : Hp} : ∀ {vs : List V} {ds : List PyData}, NiceAll K H vs ds → (PyData.shownAll ds).length = vs.length ∧ ∀ t ∈ PyData.shownAll ds, t.length ≤ 40
  | _, _, .nil => ⟨by simp [PyData.shownAll], fun t h => by simp [PyData.shownAll] at h⟩
  | _, _, .cons h t => by
    obtain ⟨h1, h2⟩ := t.len
    simp only [PyData.shownAll]
    refine ⟨by rw [List.length_cons, List.length_cons, h1], fun x hx => ?_⟩
    rcases List.mem_cons.mp hx with rfl | hx
    · exact h.2.2.2
    · exact h2 x hx
theorem NiceAll.size {K : PySem.W.Frag} {H : Hp} {vs : List V} {ds : List PyData} (h : NiceAll K H vs ds) (hv : vs.length ≤ 1000) : (listText (PyData.shownAll ds)).length ≤ sizeLine := by
  obtain ⟨h1, h2⟩ := h.len
  have h3 := text_len (PyData.shownAll ds) 0 "[" h2
  have h4 : (Str.ofString "[").length = 1 := by decide
  have h5 : (Str.ofString "]").length = 1 := by decide
  unfold listText
  rw [strLen_append, sizeLine_eq]
  rw [h1] at h3
  omega
end FS

set_option Elab.async false
set_option linter.all false
set_option maxRecDepth 100000
set_option maxHeartbeats 4000000
namespace FS
open PySem PySem.Spec PyProof.Rows L2
/-! ### an error's class -/
structure EC (K : PySem.W.Frag) (mg : Str → Option Value) (nm : Str) (C fI : Addr) : Prop where
  oex : OexC K C
  gC : mg nm = some (.ref C)
  iC : PySem.W.findIn K (.ref C) "__init__" = some (some (.ref fI))
  tI : PySem.W.typeIn K (.ref fI) = some (.type "function")
  xf : XfC K C
  ec : ExcC K C
theorem ec_mk {K : PySem.W.Frag} {h : Heap} {mg : Str → Option Value} (X : K.In h) (G : h.Ns mainGlobals mg) {nm : Str} {C fI : Addr} {n1 q : Str} {N : Addr} {bs bm : List Value} {sn : List Str} {sub : List Value} {ab : Bool} {col : Option Bool} {dd : Option Addr} {m0 m1 m2 m3 m5 : Option Value}
    (aC : PySem.W.nsIn K mainGlobals nm = some (some (.ref C))) (xL : K.lookup C = some (excClassObj n1 q C N bs bm true sn sub ab col dd m0 m1 m2 m3 m5 "ValueError.__new__")) (bmv : PySem.HandSPX.refsVE bm = true)
    (sa : PySem.W.findIn K (.ref C) "__setattr__" = some (some (.builtin "object.__setattr__"))) (ga : PySem.W.findIn K (.ref C) "__getattribute__" = some (some (.builtin "BaseException.__getattribute__"))) (gg : PySem.W.findIn K (.ref C) "__getattr__" = some none)
    (a1 : PySem.W.findIn K (.ref C) "__init__" = some (some (.ref fI))) (t1 : PySem.W.typeIn K (.ref fI) = some (.type "function")) (kC : PySem.W.keepIn K (.ref C) = true) (eC : PySem.W.subIn K (.ref C) (.type "BaseException") = some true)
    (tC : PySem.W.typeIn K (.ref C) = some (.type "type")) (hC : PySem.W.hasDictIn K C = true) (cC : PySem.W.findIn K (.ref C) "__class__" = some (some (.builtin "object.__class__"))) (mC : PySem.W.mroIn K C (.type "object") = some true)
    (hn : PySem.W.specialIn K (.builtin "object.__class__") "__get__" = some (some (.builtin "getset_descriptor.__get__"))) (ht : PySem.W.takesIn K (.builtin "object.__class__") = some true) : EC K mg nm C fI :=
  ⟨⟨⟨n1, q, N, bs, bm, sn, sub, ab, col, dd, m0, m1, m2, m3, m5, xL, bmv⟩, sa, eC, tC, kC⟩, PySem.W.mg_of X G aC, a1, t1, ⟨ga, gg, eC, hC⟩, ⟨ga, gg, eC, hC, cC, hn, ht, mC⟩⟩
/-- isinstance's answer over classes -/
theorem kit_own {K : PySem.W.Frag} {D C : Addr} {b : Bool} (hd : PySem.W.hasDictIn K C = true) (ty : PySem.W.typeIn K (.ref C) = some (.type "type")) (h : PySem.W.subIn K (.ref D) (.ref C) = some b) (hb : D = C → b = true) : PySem.W.kitOne K (.ref D) (.ref C) = some b := by
  unfold PySem.W.kitOne
  by_cases e : D = C
  · subst e
    rw [if_pos (by simp), hb rfl]
  · have ne : ((Value.ref D) == (Value.ref C)) = false := beq_eq_false_iff_ne.mpr fun q => e (Value.ref.inj q)
    rw [ne, if_neg Bool.false_ne_true]
    obtain ⟨cd, hc, _⟩ := PySem.W.any_some hd
    show (if ((PySem.W.clsIn K C).isSome && PySem.W.typeIn K (.ref C) == some (.type "type")) = true then PySem.W.subIn K (.ref D) (.ref C) else none) = some b
    rw [if_pos (by rw [hc, ty] <;> rfl)]
    exact h
theorem kit_ve {K : PySem.W.Frag} {D : Addr} {b : Bool} (h : PySem.W.subIn K (.ref D) (.type "ValueError") = some b) : PySem.W.kitOne K (.ref D) (.type "ValueError") = some b := by
  unfold PySem.W.kitOne
  have ne : ((Value.ref D) == (Value.type "ValueError")) = false := beq_eq_false_iff_ne.mpr fun q => nomatch q
  rw [ne, if_neg Bool.false_ne_true]
  show (if PySem.W.kitMeta "ValueError" = true then PySem.W.subIn K (.ref D) (.type "ValueError") else none) = some b
  rw [if_pos (by decide +kernel)]
  exact h
/-! ### an error made -/
def ErrAt (H : Hp) (a C : Addr) (fs : List (Str × V)) : Prop := ∃ d, H a = some (exo a C (some d)) ∧ H d = some (exd d fs)
theorem ErrAt.mono {H H' : Hp} {a C : Addr} {fs : List (Str × V)} (s : Same H H') (h : ErrAt H a C fs) : ErrAt H' a C fs := by
  obtain ⟨d, h1, h2⟩ := h
  exact ⟨d, s _ _ h1, s _ _ h2⟩
def spI1 (C : Addr) (f : Str) : Sp := fun vs H Q _ => ∃ (a : Addr) (v : V), vs = [.ref a, v] ∧ H a = some (exo a C none) ∧ ∀ H', Off a H H' → ErrAt H' a C [(f, v)] → Q .non H'
def spI2 (C : Addr) (f g : Str) : Sp := fun vs H Q _ => ∃ (a : Addr) (v u : V), vs = [.ref a, v, u] ∧ H a = some (exo a C none) ∧ ∀ H', Off a H H' → ErrAt H' a C [(g, u), (f, v)] → Q .non H'
def spI3 (C : Addr) (f g i : Str) : Sp := fun vs H Q _ => ∃ (a : Addr) (v u x : V), vs = [.ref a, v, u, x] ∧ H a = some (exo a C none) ∧ ∀ H', Off a H H' → ErrAt H' a C [(i, x), (g, u), (f, v)] → Q .non H'
theorem off_first {H : Hp} {a dx C : Addr} {u : HO} (n : H dx = none) : Off a H (upd (upd H dx u) a (exo a C (some dx))) := fun b o hb e => by rw [upd_ne hb, upd_ne (ne_of_none e n)]; exact e
theorem err_first {H : Hp} {a dx C : Addr} {fs : List (Str × V)} (ne : dx ≠ a) : ErrAt (upd (upd H dx (exd dx fs)) a (exo a C (some dx))) a C fs := ⟨dx, upd_same, by rw [upd_ne ne, upd_same]⟩
theorem err_next {H : Hp} {a dx C : Addr} {fs : List (Str × V)} (ne : dx ≠ a) (h : H a = some (exo a C (some dx))) : ErrAt (upd H dx (exd dx fs)) a C fs := ⟨dx, by rw [upd_ne ne.symm]; exact h, upd_same⟩
section
variable {P : Program} {w : World} {K : PySem.W.Frag} {mg : Str → Option Value} {base : Heap} {H : Hp} {C : Addr} {f g i : Str} {Q : VK}
theorem mk1 {v : V} (h : ∀ a H', Same H H' → H a = none → ErrAt H' a C [(f, v)] → Q (.ref a) H') :
    [v].length ≤ 1000 ∧ ∀ a, H a = none → spI1 C f (.ref a :: ([v] ++ [])) (upd H a (exo a C none)) (fun v H2 => v = .non ∧ Q (.ref a) H2) (fun _ _ _ => False) :=
  ⟨by simp, fun a na => ⟨a, v, rfl, upd_same, fun H' o e => ⟨rfl, h a H' (Off.same (same_new na) na o) na e⟩⟩⟩
theorem mk2 {v u : V} (h : ∀ a H', Same H H' → H a = none → ErrAt H' a C [(g, u), (f, v)] → Q (.ref a) H') :
    [v, u].length ≤ 1000 ∧ ∀ a, H a = none → spI2 C f g (.ref a :: ([v, u] ++ [])) (upd H a (exo a C none)) (fun v H2 => v = .non ∧ Q (.ref a) H2) (fun _ _ _ => False) :=
  ⟨by simp, fun a na => ⟨a, v, u, rfl, upd_same, fun H' o e => ⟨rfl, h a H' (Off.same (same_new na) na o) na e⟩⟩⟩
theorem mk3 {v u x : V} (h : ∀ a H', Same H H' → H a = none → ErrAt H' a C [(i, x), (g, u), (f, v)] → Q (.ref a) H') :
    [v, u, x].length ≤ 1000 ∧ ∀ a, H a = none → spI3 C f g i (.ref a :: ([v, u, x] ++ [])) (upd H a (exo a C none)) (fun v H2 => v = .non ∧ Q (.ref a) H2) (fun _ _ _ => False) :=
  ⟨by simp, fun a na => ⟨a, v, u, x, rfl, upd_same, fun H' o e => ⟨rfl, h a H' (Off.same (same_new na) na o) na e⟩⟩⟩
end
/-! ### isinstance over a list of errors -/
inductive Isi (K : PySem.W.Frag) (H : Hp) (cv : Value) : List V → List Bool → Prop
  | nil : Isi K H cv [] []
  | cons {a C : Addr} {fs : List (Str × V)} {b : Bool} {vs : List V} {bs : List Bool} : ErrAt H a C fs → ExcC K C → PySem.W.kitOne K (.ref C) cv = some b → Isi K H cv vs bs → Isi K H cv (.ref a :: vs) (b :: bs)
theorem Isi.mono {K : PySem.W.Frag} {H H' : Hp} {cv : Value} (s : Same H H') : ∀ {vs : List V} {bs : List Bool}, Isi K H cv vs bs → Isi K H' cv vs bs
  | _, _, .nil => .nil
  | _, _, .cons h1 h2 h3 t => .cons (h1.mono s) h2 h3 (t.mono s)
theorem Isi.get {K : PySem.W.Frag} {H : Hp} {cv : Value} : ∀ {vs : List V} {bs : List Bool} {i : Nat} {v : V}, Isi K H cv vs bs → vs[i]? = some v → ∃ a C fs b, v = .ref a ∧ ErrAt H a C fs ∧ ExcC K C ∧ PySem.W.kitOne K (.ref C) cv = some b ∧ bs[i]? = some b
  | _, _, i, v, .nil, e => by simp at e
  | _, _, 0, v, .cons h1 h2 h3 t, e => by
    simp at e
    exact ⟨_, _, _, _, e.symm, h1, h2, h3, by simp⟩
  | _, _, i + 1, v, .cons h1 h2 h3 t, e => by
    simp at e
    obtain ⟨a, C, fs, b, r⟩ := t.get e
    exact ⟨a, C, fs, b, r.1, r.2.1, r.2.2.1, r.2.2.2.1, by simpa using r.2.2.2.2⟩
theorem Isi.len {K : PySem.W.Frag} {H : Hp} {cv : Value} : ∀ {vs : List V} {bs : List Bool}, Isi K H cv vs bs → bs.length = vs.length
  | _, _, .nil => rfl
  | _, _, .cons _ _ _ t => by rw [List.length_cons, List.length_cons, t.len]
/-- one isinstance -/
theorem isi_one {K : PySem.W.Frag} {H : Hp} {a C : Addr} {fs : List (Str × V)} {b : Bool} {c : V} {cv : Value} {Q : VK} (h1 : ErrAt H a C fs) (h2 : ExcC K C) (hc : ∀ u, RelV c u → u = cv) (h3 : PySem.W.kitOne K (.ref C) cv = some b) (q : Q (.bl b) H) : rIsO K [.ref a, c] H Q := by
  obtain ⟨d, e1, e2⟩ := h1
  exact ⟨a, C, d, fs, c, cv, b, rfl, e1, e2, h2, hc, h3, q⟩
/-- [isinstance(x, c) for x in xs] -/
theorem comp_isi {K : PySem.W.Frag} {i j : Nat} {σ : L2.St} {H : Hp} {Q : VK} {l : Addr} {vs : List V} {bs : List Bool} {c : V} {cv : Value} (h1 : σ[i]? = some (some (.ref l))) (hl : SqL K H l vs) (hv : Isi K H cv vs bs) (hc : ∀ u, RelV c u → u = cv) (hz : vs.length ≤ 100) (hj : j < σ.length)
    (hq : ∀ D H', Same H H' → H' D = some (.lst (bs.map .bl)) → Q (.ref D) H') : tLc (iList K (tVar i)) (gName j) tYes (tCB (rIsO K) (tCons (tVar j) (tCons (tC c) tNil))) [j] σ H Q := by
  refine ⟨_, h1, l, rfl, ⟨_, hl⟩, fun D hD => ?_⟩
  have s0 : Same H (upd H D (.lst [])) := same_new hD
  refine lc_list (xs := vs) (fun i H' => Same H H' ∧ H' D = some (.lst ((bs.take i).map .bl))) ⟨s0, upd_same⟩ (fun _ _ _ h => h.1.seq hl) (fun k x H' hx ⟨s, hd⟩ => ?_) (fun H' ⟨s, hd⟩ => hq D H' s ?_)
  · obtain ⟨a, C, fs, b, rfl, e1, e2, e3, e4⟩ := (hv.mono s).get hx
    refine ⟨by simp [wipe], ?_⟩
    refine ⟨.ref a, by simp [wipe, hj], ?_⟩
    dsimp only [tCons, tC, tNil]
    refine isi_one e1 e2 hc e3 ⟨_, hd, ?_, ?_, ?_⟩
    · rw [List.length_map, List.length_take]
      have := hv.len
      exact small1000 (by omega)
    · intro b' o e
      rw [upd_ne (ne_of_none e hD)]
      exact s _ _ e
    · rw [upd_same, List.take_add_one, e4, List.map_append]
      rfl
  · rw [hd, ← hv.len, List.take_length]
end FS

set_option Elab.async false
set_option linter.all false
set_option maxRecDepth 100000
set_option maxHeartbeats 4000000
namespace FS
open PySem PySem.Spec PyProof.Rows L2
section
variable {K : PySem.W.Frag} {H : Hp} {Q : VK}
theorem mkL {xs : List V} (hl : xs.length ≤ 1000) (h : ∀ p H', Same H H' → H p = none → H' p = some (.lst xs) → Q (.ref p) H') : xs.length ≤ sizeLine ∧ ∀ p, H p = none → Q (.ref p) (upd H p (.lst xs)) :=
  ⟨Nat.le_of_lt (small1000 hl), fun p np => h p _ (same_new np) np upd_same⟩
theorem mkT {xs : List V} (hl : xs.length ≤ 1000) (h : ∀ p H', Same H H' → H p = none → H' p = some (.tup xs) → Q (.ref p) H') : xs.length ≤ sizeLine ∧ ∀ p, H p = none → Q (.ref p) (upd H p (.tup xs)) :=
  ⟨Nat.le_of_lt (small1000 hl), fun p np => h p _ (same_new np) np upd_same⟩
theorem mkD (h : ∀ p H', Same H H' → H p = none → H' p = some (.dK []) → Q (.ref p) H') : ∀ p, H p = none → Q (.ref p) (upd H p (.dK [])) := fun p np => h p _ (same_new np) np upd_same
theorem mkCat {l b : Addr} {xs zs : List V} (hl : H l = some (.lst xs)) (hb : H b = some (.lst zs)) (hz : xs.length + zs.length ≤ 1000) (h : ∀ p H', Same H H' → H' p = some (.lst (xs ++ zs)) → Q (.ref p) H') : rCat (.ref l) (.ref b) H Q :=
  ⟨l, b, xs, zs, rfl, rfl, hl, hb, Nat.le_of_lt (small1000 hz), fun p np => h p _ (same_new np) upd_same⟩
theorem rp {a : Addr} {v : V} {vs : List V} {ds : List PyData} (ha : H a = some (.lst (v :: vs))) (hn : NiceAll K H (v :: vs) ds) (hl : (v :: vs).length ≤ 1000) (q : Q (.str (listText (PyData.shownAll ds))) H) : rReprL K [.ref a] H Q :=
  ⟨a, v, vs, ds, rfl, ha, hn.dq, hn.show, hn.depth, hn.size hl, q⟩
theorem rd_at {σ : L2.St} {l a C : Addr} {xs : List V} {i : Int} {j : Nat} {fs : List (Str × V)} {n : Str} {v : V} (hj : σ[j]? = some (some (.ref l))) (hL : H l = some (.lst xs)) (hx : atI xs i = some (.ref a)) (he : ErrAt H a C fs) (T : XfC K C)
    (no : PySem.W.findIn K (.ref C) n = some none) (hl : fs.lookup n = some v) (q : Q v H) : tXo K n (tOp (rIxL K) (tVar j) (tC (.int i))) σ H Q := by
  obtain ⟨d, h1, h2⟩ := he
  exact ⟨_, hj, l, xs, i, _, rfl, rfl, SqL.of hL, hx, a, C, d, fs, v, rfl, h1, h2, T, no, hl, q⟩
theorem dp_bools {a : Addr} {bs : List Bool} (h : H a = some (.lst (bs.map V.bl))) : Dp K H (.ref a) (.list (bs.map PyData.bool)) := by
  refine .lst (SqL.of h) ?_
  clear h
  induction bs with
  | nil => exact .nil
  | cons b r ih => exact .cons (.bl b) ih
/-- [spot == other for other in range(n)] -/
theorem comp_eq {σ : L2.St} {i j n : Nat} {z : Int} (hi : σ[i]? = some (some (.int z))) (hj : j < σ.length) (hne : i ≠ j) (hn : n ≤ 1000)
    (hq : ∀ D H', Same H H' → H' D = some (.lst ((List.range n).map fun k : Nat => V.bl (decide (V.int z = V.int (0 + (k : Int)))))) → Q (.ref D) H') : tLc (iRng1 (tCons (tC (.int (n : Int))) tNil)) (gName j) tYes (tOp rEq (tVar i) (tVar j)) [j] σ H Q := by
  refine ⟨(n : Int), rfl, by omega, by omega, fun D hD => ?_⟩
  refine lc_range (lo := 0) (n := n) (fun k H' => Same H H' ∧ H' D = some (.lst ((List.range k).map fun k : Nat => V.bl (decide (V.int z = V.int (0 + (k : Int))))))) ⟨same_new hD, upd_same⟩ (fun k H' hk ⟨s, hd⟩ => ?_) (fun H' ⟨s, hd⟩ => hq D H' s hd)
  refine ⟨by simp [wipe], ?_⟩
  refine ⟨.int z, ?_, .int (0 + (k : Int)), by simp [wipe, hj], rfl, _, hd, ?_, ?_, ?_⟩
  · simp [wipe, List.getElem?_set, hne.symm, hi]
  · rw [List.length_map, List.length_range]
    exact small1000 (by omega)
  · intro b o e
    rw [upd_ne (ne_of_none e hD)]
    exact s _ _ e
  · rw [upd_same, List.range_succ, List.map_append]
    rfl
theorem off_second {a dx C : Addr} {u1 u2 : HO} (n : H dx = none) : Off a H (upd (upd (upd H dx u1) a (exo a C (some dx))) dx u2) := fun b o hb e => by rw [upd_ne (ne_of_none e n), upd_ne hb, upd_ne (ne_of_none e n)]; exact e
theorem off_third {a dx C : Addr} {u1 u2 u3 : HO} (n : H dx = none) : Off a H (upd (upd (upd (upd H dx u1) a (exo a C (some dx))) dx u2) dx u3) := fun b o hb e => by rw [upd_ne (ne_of_none e n), upd_ne (ne_of_none e n), upd_ne hb, upd_ne (ne_of_none e n)]; exact e
end
end FS

set_option Elab.async false
set_option linter.all false
set_option maxRecDepth 100000
set_option maxHeartbeats 4000000
namespace FS
open PySem PySem.Spec PyProof.Rows L2
/-! Rules whose readings hand on a heap by a letter: what stood stands, and the new thing is there. -/
section
variable {X : Cx} {e : Expr} {es : List Expr} {te : TE} {t : TA} {p pos : Pos}
theorem pe_imp {t' : TE} (h : PE X e te) (i : ∀ σ H Q, t' σ H Q → te σ H Q) : PE X e t' := ⟨fun pins s σ H Q I q => h.run pins s σ H Q I (i σ H Q q)⟩
def tLstS (t : TA) : TE := fun σ H Q => t σ H fun xs H1 => xs.length ≤ 1000 ∧ ∀ p H', Same H1 H' → H1 p = none → H' p = some (.lst xs) → Q (.ref p) H'
def tTupS (t : TA) : TE := fun σ H Q => t σ H fun xs H1 => xs.length ≤ 1000 ∧ ∀ p H', Same H1 H' → H1 p = none → H' p = some (.tup xs) → Q (.ref p) H'
def tDictS : TE := fun _ H Q => ∀ p H', Same H H' → H p = none → H' p = some (.dK []) → Q (.ref p) H'
theorem pe_lstS (h : PA X es t) : PE X (.List es pos) (tLstS t) := by
  refine ⟨fun pins s0 σ H Q I hq => ?_⟩
  refine wpAny_List_spliced (thn (h.run pos pins s0 σ H _ I hq) fun us s1 ⟨xs, H1, I1, r, z, q⟩ => ⟨by rw [← r.length]; exact Nat.le_of_lt (small1000 z), ?_⟩)
  have nf : H1 s1.heap.objs.size = none := I1.hok.fresh (Nat.le_refl _)
  refine ⟨.ref s1.heap.objs.size, upd H1 s1.heap.objs.size (.lst xs), I1.laid (t' := s1.toks) (fun b u e1 => Heap.get?_push_of_some _ e1) (Nat.le_refl _) ?_, rfl, q _ _ (same_new nf) nf upd_same⟩
  exact ⟨Nat.le_of_lt (small1000 z), us, 0, r, Heap.get?_push_size _ rfl⟩
theorem pe_tupS {x1} (h : PA X es t) : PE X (.Tuple es x1 pos) (tTupS t) := by
  refine ⟨fun pins s0 σ H Q I hq => ?_⟩
  refine wpAny_Tuple_spliced (thn (h.run pos pins s0 σ H _ I hq) fun us s1 ⟨xs, H1, I1, r, z, q⟩ => ⟨by rw [← r.length]; exact Nat.le_of_lt (small1000 z), ?_⟩)
  have nf : H1 s1.heap.objs.size = none := I1.hok.fresh (Nat.le_refl _)
  refine ⟨.ref s1.heap.objs.size, upd H1 s1.heap.objs.size (.tup xs), I1.laid (t' := s1.toks) (fun b u e1 => Heap.get?_push_of_some _ e1) (Nat.le_refl _) ?_, rfl, q _ _ (same_new nf) nf upd_same⟩
  exact ⟨Nat.le_of_lt (small1000 z), us, r, ⟨_, Heap.get?_push_size _ rfl, rfl, _, rfl⟩⟩
theorem pe_dictS : PE X (.Dict [] [] pos) tDictS := pe_imp pe_dnewK fun σ H Q h p np => h p _ (same_new np) np upd_same
def rCatS : R2 := fun x y H Q => ∃ l b xs zs, x = .ref l ∧ y = .ref b ∧ H l = some (.lst xs) ∧ H b = some (.lst zs) ∧ xs.length + zs.length ≤ 1000 ∧ ∀ p H', Same H H' → H p = none → H' p = some (.lst (xs ++ zs)) → Q (.ref p) H'
theorem op_catS : OpR X (binaryOp .Add) rCatS := fun pins s σ H x y v u Q I rx ry ⟨l, b, xs, zs, e1, e2, h1, h2, hz, q⟩ =>
  op_cat pins s σ H x y v u Q I rx ry ⟨l, b, xs, zs, e1, e2, h1, h2, Nat.le_of_lt (small1000 hz), fun p np => q p _ (same_new np) np upd_same⟩
def rRepS : R2 := fun x y H Q => ∃ l k xs, x = .ref l ∧ y = .int k ∧ H l = some (.lst xs) ∧ 0 ≤ k ∧ k < 1000 ∧ xs.length * k.toNat ≤ 1000 ∧ ∀ p H', Same H H' → H p = none → H' p = some (.lst ((List.replicate k.toNat xs).flatten)) → Q (.ref p) H'
def tMk1 (C : Addr) (f : Str) (i : Nat) : TE := fun σ H Q => ∃ v, σ[i]? = some (some v) ∧ ∀ a H', Same H H' → H a = none → ErrAt H' a C [(f, v)] → Q (.ref a) H'
def tMk2 (C : Addr) (f g : Str) (i j : Nat) : TE := fun σ H Q => ∃ v u, σ[i]? = some (some v) ∧ σ[j]? = some (some u) ∧ ∀ a H', Same H H' → H a = none → ErrAt H' a C [(g, u), (f, v)] → Q (.ref a) H'
def tMk3 (C : Addr) (f g k : Str) (i j m : Nat) : TE := fun σ H Q => ∃ v u x, σ[i]? = some (some v) ∧ σ[j]? = some (some u) ∧ σ[m]? = some (some x) ∧ ∀ a H', Same H H' → H a = none → ErrAt H' a C [(k, x), (g, u), (f, v)] → Q (.ref a) H'
theorem pe_mk1 {C : Addr} {f : Str} {i : Nat} (h : PE X e (tMkV C (spI1 C f) [] (tCons (tVar i) tNil))) : PE X e (tMk1 C f i) := pe_imp h fun σ H Q ⟨v, e1, q⟩ => ⟨v, e1, mk1 q⟩
theorem pe_mk2 {C : Addr} {f g : Str} {i j : Nat} (h : PE X e (tMkV C (spI2 C f g) [] (tCons (tVar i) (tCons (tVar j) tNil)))) : PE X e (tMk2 C f g i j) := pe_imp h fun σ H Q ⟨v, u, e1, e2, q⟩ => ⟨v, e1, u, e2, mk2 q⟩
theorem pe_mk3 {C : Addr} {f g k : Str} {i j m : Nat} (h : PE X e (tMkV C (spI3 C f g k) [] (tCons (tVar i) (tCons (tVar j) (tCons (tVar m) tNil))))) : PE X e (tMk3 C f g k i j m) := pe_imp h fun σ H Q ⟨v, u, x, e1, e2, e3, q⟩ => ⟨v, e1, u, e2, x, e3, mk3 q⟩
def tCI (K : PySem.W.Frag) (i j : Nat) (c : V) : TE := fun σ H Q => ∃ (l : Addr) (vs : List V) (bs : List Bool) (cv : Value), σ[i]? = some (some (.ref l)) ∧ SqL K H l vs ∧ Isi K H cv vs bs ∧ (∀ u, RelV c u → u = cv) ∧ vs.length ≤ 100 ∧ j < σ.length ∧ ∀ D H', Same H H' → H' D = some (.lst (bs.map .bl)) → Q (.ref D) H'
theorem pe_ci {K : PySem.W.Frag} {i j : Nat} {c : V} (h : PE X e (tLc (iList K (tVar i)) (gName j) tYes (tCB (rIsO K) (tCons (tVar j) (tCons (tC c) tNil))) [j])) : PE X e (tCI K i j c) :=
  pe_imp h fun σ H Q ⟨l, vs, bs, cv, h1, h2, h3, h4, h5, h6, q⟩ => comp_isi h1 h2 h3 h4 h5 h6 q
def tCE (i j n : Nat) : TE := fun σ H Q => ∃ z : Int, σ[i]? = some (some (.int z)) ∧ j < σ.length ∧ ∀ D H', Same H H' → H' D = some (.lst ((List.range n).map fun k : Nat => V.bl (decide (V.int z = V.int (0 + (k : Int)))))) → Q (.ref D) H'
theorem pe_ce {i j n : Nat} (hne : i ≠ j) (hn : n ≤ 1000) (h : PE X e (tLc (iRng1 (tCons (tC (.int (n : Int))) tNil)) (gName j) tYes (tOp rEq (tVar i) (tVar j)) [j])) : PE X e (tCE i j n) := pe_imp h fun σ H Q ⟨z, h1, h2, q⟩ => comp_eq h1 h2 hne hn q
def tRep (K : PySem.W.Frag) (te : TE) : TE := fun σ H Q => te σ H fun x H1 => rReprL K [x] H1 Q
theorem pe_rep {K : PySem.W.Frag} (h : PE X e (tCB (rReprL K) (tCons te tNil))) : PE X e (tRep K te) := pe_imp h fun _ _ _ q => q
def tIsi (K : PySem.W.Frag) (te : TE) (c : V) : TE := fun σ H Q => te σ H fun x H1 => rIsO K [x, c] H1 Q
theorem pe_isi {K : PySem.W.Frag} {c : V} (h : PE X e (tCB (rIsO K) (tCons te (tCons (tC c) tNil)))) : PE X e (tIsi K te c) := pe_imp h fun _ _ _ q => q
end
end FS

set_option Elab.async false
set_option linter.all false
set_option maxRecDepth 100000
set_option maxHeartbeats 4000000
namespace FS
open PySem PySem.Spec PyProof.Rows L2
section
variable {X : Cx}
theorem count_eqU {y : V} : ∀ {xs : List V} {us : List Value}, Vals xs us → xs.all flatV = true → us.countP (eqU y) = xs.countP fun z => eqV z y
  | _, _, .nil, _ => rfl
  | x :: xs, u :: us, .cons r t, f => by
    rw [List.all_cons, Bool.and_eq_true] at f
    rw [List.countP_cons, List.countP_cons, eqU_of r f.1, count_eqU t f.2]
/-- xs.count(y), flat items -/
def rCntV (K : PySem.W.Frag) : V → List V → Hp → VK → Prop := fun x xs H Q => ∃ (p : Addr) (ys : List V) (y : V), x = .ref p ∧ xs = [y] ∧ SqL K H p ys ∧ flatV y = true ∧ ys.all flatV = true ∧ Q (.int (ys.countP (fun z => eqV z y) : Nat)) H
theorem mt_countV : MtR X "list.count" (rCntV X.K) := by
  intro pins s σ H x xs v us Q I rx rxs h
  obtain ⟨p, ys, y, rfl, rfl, hs, fy, fys, q⟩ := h
  cases rx
  obtain ⟨u, rfl, ru⟩ := rxs.one
  obtain ⟨its, rv, ⟨⟨cls, dd, data, sl⟩, n, ho, hc, hdn, hd⟩, hlen⟩ := I.list hs
  simp only at hc hd
  subst hc hd
  refine call_meets PySem.F.slot_list_count ⟨_, ho, rfl⟩ PySem.F.entry_list_count (PySem.F.args_list_count_2 _ _)
    (SeqAt.list_countAt p its.toArray n dd sl u (eqU y)) ⟨ho, fun z hz => mem_eqAt ru fy rv fys z (by simpa using hz), ?_⟩
  have ec : its.toArray.toList.countP (eqU y) = ys.countP fun z => eqV z y := count_eqU rv fys
  refine ⟨.int (ys.countP (fun z => eqV z y) : Nat), H, I.tok _, ⟨s.toks, ?_⟩, q⟩
  show Value.int ((its.toArray.toList.countP (eqU y) : Nat) : Int) s.toks = Value.int ((ys.countP (fun z => eqV z y) : Nat) : Int) s.toks
  rw [ec]
def rSlS (K : PySem.W.Frag) : V → Option Int → Option Int → Hp → VK → Prop := fun x lo hi H Q => ∃ a xs, x = .ref a ∧ SqL K H a xs ∧ ∀ p H', Same H H' → H p = none → H' p = some (.lst (cutV xs lo hi)) → Q (.ref p) H'
theorem sl_listS : SlR X (rSlS X.K) := fun pins s σ H x v vl vu lo hi sl Q I rx hs pl pu ⟨a, xs, e, hx, q⟩ =>
  sl_list pins s σ H x v vl vu lo hi sl Q I rx hs pl pu ⟨a, xs, e, hx, fun p np => q p _ (same_new np) np upd_same⟩
theorem call_listS : CallR X (.type "list") (fun xs H Q => ∃ p ys, xs = [.ref p] ∧ (SqL X.K H p ys ∨ SqT X.K H p ys) ∧ ∀ l H', Same H H' → H l = none → H' l = some (.lst ys) → Q (.ref l) H') := fun pins s σ H xs us Q I r ⟨p, ys, e, h, q⟩ =>
  call_list_of pins s σ H xs us Q I r ⟨p, ys, e, h, fun l nl => q l _ (same_new nl) nl upd_same⟩
theorem op_repS : OpR X (binaryOp .Mult) rRepS := fun pins s σ H x y v u Q I rx ry ⟨l, k, xs, e1, e2, h, k0, k1, hz, q⟩ =>
  op_rep pins s σ H x y v u Q I rx ry ⟨l, k, xs, e1, e2, h, by omega, by omega, Nat.le_of_lt (small1000 hz), fun p np => q p _ (same_new np) np upd_same⟩
end
theorem ixN_of {n j : Nat} (hj : j < n) : ixN n (j : Int) = some j := by
  unfold ixN
  rw [if_pos (by omega), if_pos (by omega)]; simp
theorem cut_ints (ns : List Int) (lo hi : Option Int) : ∃ ms : List Int, cutV (ns.map V.int) lo hi = ms.map V.int ∧ ms.length ≤ ns.length := by
  refine ⟨(ns.drop (HT.sIx (ns.map V.int).length 0 lo)).take (HT.sIx (ns.map V.int).length (ns.map V.int).length hi - HT.sIx (ns.map V.int).length 0 lo), ?_, ?_⟩
  · unfold cutV
    rw [List.map_take, List.map_drop]
  · rw [List.length_take, List.length_drop]
    omega
end FS

set_option Elab.async false
set_option linter.all false
set_option maxRecDepth 100000
set_option maxHeartbeats 4000000
/-! The defs of this law's text, by their places. -/
namespace TopL
open PySem PySem.Spec PyProof.Rows L2
def top (i : Nat) : Stmt := PySem.Challenge.pw_foldsame_k20_partitions.main.body.getD i (.Pass ⟨0, 0, 0, 0⟩)
abbrev sWith : Stmt := top 1
abbrev sParts : Stmt := top 2
abbrev sPool : Stmt := top 4
abbrev sTake : Stmt := top 5
abbrev sLonger : Stmt := top 6
abbrev sMarks : Stmt := top 7
abbrev sDue : Stmt := top 8
abbrev sLaw : Stmt := top 9
end TopL

set_option Elab.async false
set_option linter.all false
set_option maxRecDepth 100000
set_option maxHeartbeats 4000000
/-! What laws by cells draw with. -/
namespace LP
open PySem PySem.Spec PyProof.Rows L2 FS
/-- a pool of numbers -/
def PAt (p : Addr) (H : Hp) : Prop := ∃ g s : Int, H p = some (.lst [.int g, .int s]) ∧ 0 ≤ g ∧ 0 ≤ s ∧ s < 2147483647
theorem PAt.mono {p : Addr} {H H' : Hp} (h : PAt p H) (s : Same H H') : PAt p H' := by
  obtain ⟨g, t, e, l⟩ := h
  exact ⟨g, t, s _ _ e, l⟩
section
variable {P : Program} {w : World} {K : PySem.W.Frag} {mg : Str → Option Value} {base : Heap}
theorem b01 (c : Bool) : 0 ≤ (if c = true then (1 : Int) else 0) := by cases c <;> decide
theorem b01w (c : Bool) : -2 ^ 64 < (if c = true then (1 : Int) else 0) ∧ (if c = true then (1 : Int) else 0) < 2 ^ 64 := by cases c <;> decide
theorem sq5 (k : Nat) (h : k < 5) : 0 ≤ 104729 * (k : Int) * (k : Int) ∧ 104729 * (k : Int) * (k : Int) ≤ 2000000 := by
  have : k = 0 ∨ k = 1 ∨ k = 2 ∨ k = 3 ∨ k = 4 := by omega
  rcases this with rfl | rfl | rfl | rfl | rfl <;> decide
/-! ### _law_pool -/
def spPool (K : PySem.W.Frag) : Sp := fun vs H Q _ => ∃ (a : Addr) (ns : List Int) (k : Nat), vs = [.ref a, .int k] ∧ SqL K H a (ns.map V.int) ∧ k < 5 ∧ ns.length ≤ 63 ∧
  ∀ H' p, Same H H' → H p = none → PAt p H' → Q (.ref p) H'
theorem scP : FnScope ["_law_script", "_law_k", "_law_cell", "_law_great", "_law_seed"] ["_law_script", "_law_k"] (defScope TopL.sPool) := ⟨rfl, rfl, rfl, by decide +kernel, rfl, by decide +kernel, by decide +kernel⟩
theorem ok_pool {f : Addr} {fd : FuncData} {k : Nat} (F : Fun K "_law_pool" "_law_pool" TopL.sPool f fd) (ml : mg "len" = none) (ma : mg "abs" = none) (mi : mg "int" = none) : FnOk P w K mg base CX0 (k + 1) f fd ["_law_script", "_law_k"] (spPool K) := by
  refine F.ok scP (fun vs H Q E h => ?_) (fun cdv A outer s H vs Q E hr h => ?_)
  · obtain ⟨a, ns, k, rfl, _⟩ := h
    rfl
  · obtain ⟨a, ns, k, rfl, hS, hk, hlen, q0⟩ := h
    have q : ∀ H' p (g s : Int), Same H H' → H p = none → H' p = some (.lst [.int g, .int s]) → 0 ≤ g → 0 ≤ s → s < 2147483647 → Q (.ref p) H' := fun H' p g s e n h a b c => q0 H' p e n ⟨g, s, h, a, b, c⟩
    refine ⟨_, pss_cons (ps_set (i := 2) scP.nd rfl (.inl rfl) pe_int)
      (pss_cons (ps_if (pt_cmpR op_lt (pv 1) (pe_callB call_len_seq (by rfl) ml PySem.boot_len (pa_cons (pv 0) pa_nil)) (nomark _))
          (pss_one (ps_set (i := 2) scP.nd rfl (.inl rfl) (pe_ix ix_list (pv 0) (pv 1) (fun _ _ => rfl)))) pss_nil)
      (pss_cons (ps_set (i := 3) scP.nd rfl (.inl rfl) (pe_callB call_abs (by rfl) ma (by decide +kernel) (pa_cons (pv 2) pa_nil)))
      (pss_cons (ps_set (i := 4) scP.nd rfl (.inl rfl) (pe_op op_mod (pe_op op_pow (pe_op op_add (pe_op op_add (pe_op op_add (pe_op op_mod (pv 2) pe_int) (pe_op op_mul (pe_op op_mul pe_int (pv 1)) (pv 1))) (pe_op op_mul pe_int (pv 1))) pe_int) pe_int) pe_int))
      (pss_one (ps_ret (pe_lst (pa_cons (pe_op op_mul (pv 3) (pe_callTy call_int1 (by rfl) mi (by decide +kernel) (pa_cons (pe_cmpR op_ge (pv 3) (pe_op op_pow pe_int pe_int) (nomark _)) pa_nil)))
        (pa_cons (pv 4) pa_nil)))))))), ?_⟩
    refine ⟨_, rfl, _, rfl, a, _, rfl, .inl hS, _, _, rfl, rfl, _, rfl, ?_⟩
    have hk0 : (0 : Int) ≤ (k : Int) := Int.natCast_nonneg _
    have hk3 : (k : Int) < 5 := by omega
    have hkk := sq5 k hk
    refine ite2 (fun hc => ?_) (fun _ => ?_)
    · have hk2 : k < ns.length := by
        have h1 := of_decide_eq_true hc
        rw [List.length_map] at h1
        omega
      have g : (ns.map V.int)[k]? = some (V.int ns[k]) := by
        rw [List.getElem?_map, List.getElem?_eq_getElem hk2]
        rfl
      refine ⟨_, rfl, _, rfl, a, _, _, _, rfl, rfl, hS, atI_nat g, ?_⟩
      have hm : 0 ≤ ns[k] % 2147483629 ∧ ns[k] % 2147483629 < 2147483629 := ⟨Int.emod_nonneg _ (by decide), Int.emod_lt_of_pos _ (by decide)⟩
      refine ⟨_, rfl, ns[k], rfl, ?_⟩
      refine ⟨_, rfl, _, _, rfl, rfl, (show (0 : Int) < 2147483629 by decide), _, rfl, _, _, rfl, rfl, .inl ⟨by decide, by decide⟩, _, rfl, _, _, rfl, rfl, .inr ⟨by omega, by omega⟩, _, _, rfl, rfl, _, rfl, _, _, rfl, rfl, .inl ⟨by decide, by decide⟩, _, _, rfl, rfl, _, _, rfl, rfl, _, _, rfl, rfl, ⟨by decide, by decide, ?_⟩, _, _, rfl, rfl, (show (0 : Int) < 2147483647 by decide), ?_⟩
      · omega
      refine ⟨_, rfl, _, rfl, _, _, rfl, rfl, ⟨by decide, by decide, by decide⟩, _, _, rfl, rfl, .inr ⟨_, rfl, _, _, rfl, rfl, .inr ⟨?_, ?_⟩, _, rfl, (by show 2 ≤ sizeLine; decide), fun p hp => ?_⟩⟩
      · exact (b01w _).1
      · exact (b01w _).2
      refine q _ p _ _ (same_new hp) hp upd_same ?_ (Int.emod_nonneg _ (by decide)) (Int.emod_lt_of_pos _ (by decide))
      refine Int.mul_nonneg ?_ ?_
      · split <;> omega
      · exact b01 _
    · have hm : 0 ≤ (0 : Int) % 2147483629 ∧ (0 : Int) % 2147483629 < 2147483629 := ⟨Int.emod_nonneg _ (by decide), Int.emod_lt_of_pos _ (by decide)⟩
      refine ⟨_, rfl, (0 : Int), rfl, ?_⟩
      refine ⟨_, rfl, _, _, rfl, rfl, (show (0 : Int) < 2147483629 by decide), _, rfl, _, _, rfl, rfl, .inl ⟨by decide, by decide⟩, _, rfl, _, _, rfl, rfl, .inr ⟨by omega, by omega⟩, _, _, rfl, rfl, _, rfl, _, _, rfl, rfl, .inl ⟨by decide, by decide⟩, _, _, rfl, rfl, _, _, rfl, rfl, _, _, rfl, rfl, ⟨by decide, by decide, ?_⟩, _, _, rfl, rfl, (show (0 : Int) < 2147483647 by decide), ?_⟩
      · omega
      refine ⟨_, rfl, _, rfl, _, _, rfl, rfl, ⟨by decide, by decide, by decide⟩, _, _, rfl, rfl, .inr ⟨_, rfl, _, _, rfl, rfl, .inr ⟨?_, ?_⟩, _, rfl, (by show 2 ≤ sizeLine; decide), fun p hp => ?_⟩⟩
      · exact (b01w _).1
      · exact (b01w _).2
      refine q _ p _ _ (same_new hp) hp upd_same ?_ (Int.emod_nonneg _ (by decide)) (Int.emod_lt_of_pos _ (by decide))
      refine Int.mul_nonneg ?_ ?_
      · split <;> omega
      · exact b01 _
/-! ### _law_take -/
def spTake : Sp := fun vs H Q _ => ∃ (p : Addr) (m : Nat), vs = [.ref p, .int m] ∧ 0 < m ∧ m ≤ 1000 ∧ PAt p H ∧ ∀ H' (r : Nat), Off p H H' → PAt p H' → r < m → Q (.int r) H'
theorem scT : FnScope ["_law_pool_here", "_law_many", "_law_found"] ["_law_pool_here", "_law_many"] (defScope TopL.sTake) := ⟨rfl, rfl, rfl, by decide +kernel, rfl, by decide +kernel, by decide +kernel⟩
theorem toN {x : Int} {m : Nat} (h : 0 ≤ x) (h2 : x < (m : Int)) : ∃ r : Nat, x = (r : Int) ∧ r < m := ⟨x.toNat, by omega, by omega⟩
theorem ok_take {f : Addr} {fd : FuncData} {k : Nat} (F : Fun K "_law_take" "_law_take" TopL.sTake f fd) : FnOk P w K mg base CX0 (k + 1) f fd ["_law_pool_here", "_law_many"] spTake := by
  refine F.ok scT (fun vs H Q E h => ?_) (fun cdv A outer s H vs Q E hr h => ?_)
  · obtain ⟨a, m, rfl, _⟩ := h
    rfl
  · obtain ⟨p, m, rfl, hm, hm2, ⟨g, s, hp, hg, hs, hs2⟩, q0⟩ := h
    have hmi : (0 : Int) < (m : Int) := by omega
    have hmn : (m : Int) ≠ 0 := by omega
    have q : ∀ (H2 : Hp) (g' s' : Int) (r : Nat), Off p H H2 → H2 p = some (.lst [.int g', .int s']) → 0 ≤ g' → 0 ≤ s' → s' < 2147483647 → r < m → Q (.int r) H2 := fun H2 g' s' r o e a b c d => q0 H2 r o ⟨g', s', e, a, b, c⟩ d
    refine ⟨_, pss_cons (ps_if (pt_cmpR op_gt (pe_ix ix_list (pv 0) pe_int (fun _ _ => rfl)) pe_int (nomark _))
        (pss_cons (ps_set (i := 2) scT.nd rfl (.inl rfl) (pe_op op_mod (pe_ix ix_list (pv 0) pe_int (fun _ _ => rfl)) (pv 1)))
          (pss_cons (ps_asg (pe_op op_fdiv (pe_ix ix_list (pv 0) pe_int (fun _ _ => rfl)) (pv 1)) (pg_sub (pv 0) pe_int set_list (fun _ => rfl)))
          (pss_one (ps_ret (pv 2))))) pss_nil)
      (pss_cons (ps_asg (pe_op op_mod (pe_op op_add (pe_op op_mul (pe_ix ix_list (pv 0) pe_int (fun _ _ => rfl)) pe_int) pe_int) pe_int) (pg_sub (pv 0) pe_int set_list (fun _ => rfl)))
      (pss_one (ps_ret (pe_op op_mod (pe_op op_fdiv (pe_op op_mod (pe_op op_mul (pe_ix ix_list (pv 0) pe_int (fun _ _ => rfl)) (pe_ix ix_list (pv 0) pe_int (fun _ _ => rfl))) pe_int) pe_int) (pv 1))))), ?_⟩
    have e0 : atI [V.int g, V.int s] 0 = some (.int g) := rfl
    have e1 : atI [V.int g, V.int s] 1 = some (.int s) := rfl
    have hL : SqL K H p [.int g, .int s] := SqL.of hp
    refine ⟨_, rfl, p, _, 0, _, rfl, rfl, hL, e0, _, _, rfl, rfl, _, rfl, ?_⟩
    refine ite2 (fun hc => ?_) (fun hc => ?_)
    · refine ⟨_, rfl, p, _, 0, _, rfl, rfl, hL, e0, _, rfl, _, _, rfl, rfl, hmi, ?_⟩
      refine ⟨_, rfl, p, _, 0, _, rfl, rfl, hL, e0, _, rfl, _, _, rfl, rfl, ⟨hmi, by omega⟩, ?_⟩
      refine ⟨_, rfl, p, _, 0, 0, rfl, rfl, hp, rfl, ?_⟩
      obtain ⟨r, er, hr11⟩ := toN (Int.emod_nonneg g hmn) (Int.emod_lt_of_pos g hmi)
      refine ⟨_, rfl, ?_⟩
      have hq := q _ (g / (m : Int)) s r Off.put upd_same (Int.ediv_nonneg hg (by omega)) hs hs2 hr11
      rw [← er] at hq
      exact hq
    · refine ⟨_, rfl, p, _, 1, _, rfl, rfl, hL, e1, _, _, rfl, rfl, .inl ⟨by omega, by omega⟩, _, _, rfl, rfl, _, _, rfl, rfl, (show (0 : Int) < 2147483647 by decide), ?_⟩
      refine ⟨_, rfl, p, _, 1, 1, rfl, rfl, hp, rfl, ?_⟩
      have hz0 : 0 ≤ (s * 48271 + 11) % 2147483647 := Int.emod_nonneg _ (by decide)
      have hz1 : (s * 48271 + 11) % 2147483647 < 2147483647 := Int.emod_lt_of_pos _ (by decide)
      have hL2 : SqL K (upd H p (.lst ([V.int g, V.int s].set 1 (.int ((s * 48271 + 11) % 2147483647))))) p [.int g, .int ((s * 48271 + 11) % 2147483647)] := SqL.of upd_same
      have e2 : atI [V.int g, V.int ((s * 48271 + 11) % 2147483647)] 1 = some (.int ((s * 48271 + 11) % 2147483647)) := rfl
      refine ⟨_, rfl, p, _, 1, _, rfl, rfl, hL2, e2, _, rfl, p, _, 1, _, rfl, rfl, hL2, e2, _, _, rfl, rfl, .inl ⟨by omega, by omega⟩, _, _, rfl, rfl, (show (0 : Int) < 2147483629 by decide), _, _, rfl, rfl, ⟨by decide, by decide⟩, _, rfl, _, _, rfl, rfl, hmi, ?_⟩
      obtain ⟨r, er, hr11⟩ := toN (Int.emod_nonneg (((s * 48271 + 11) % 2147483647) * ((s * 48271 + 11) % 2147483647) % 2147483629 / 64) hmn) (Int.emod_lt_of_pos (((s * 48271 + 11) % 2147483647) * ((s * 48271 + 11) % 2147483647) % 2147483629 / 64) hmi)
      have hq := q _ g ((s * 48271 + 11) % 2147483647) r Off.put upd_same hg hz0 hz1 hr11
      rw [← er] at hq
      exact hq
end
end LP

set_option Elab.async false
set_option linter.all false
set_option maxRecDepth 100000
set_option maxHeartbeats 4000000
/-! sorted of lists of data. -/
namespace FS
open PySem PySem.Spec PyProof.Rows L2
section
variable {X : Cx}
/-- what each value of a list reads as -/
inductive Reps (K : PySem.W.Frag) {β : Type} (enc : β → PyData) (H : Hp) : List V → List β → Prop
  | nil : Reps K enc H [] []
  | cons {v : V} {b : β} {vs : List V} {bs : List β} : Dp K H v (enc b) → Reps K enc H vs bs → Reps K enc H (v :: vs) (b :: bs)
theorem Reps.len {K : PySem.W.Frag} {β : Type} {enc : β → PyData} {H : Hp} : ∀ {vs : List V} {bs : List β}, Reps K enc H vs bs → vs.length = bs.length
  | _, _, .nil => rfl
  | _, _, .cons _ t => by rw [List.length_cons, List.length_cons, t.len]
theorem Reps.mono {K : PySem.W.Frag} {β : Type} {enc : β → PyData} {H H' : Hp} (s : Same H H') : ∀ {vs : List V} {bs : List β}, Reps K enc H vs bs → Reps K enc H' vs bs
  | _, _, .nil => .nil
  | _, _, .cons a t => .cons (Dp_mono s _ _ a) (t.mono s)
theorem Reps.snoc {K : PySem.W.Frag} {β : Type} {enc : β → PyData} {H : Hp} {v : V} {b : β} (h : Dp K H v (enc b)) : ∀ {vs : List V} {bs : List β}, Reps K enc H vs bs → Reps K enc H (vs ++ [v]) (bs ++ [b])
  | _, _, .nil => .cons h .nil
  | _, _, .cons a t => .cons a (t.snoc h)
theorem Reps.app {K : PySem.W.Frag} {β : Type} {enc : β → PyData} {H : Hp} : ∀ {vs : List V} {bs : List β} {ws : List V} {cs : List β}, Reps K enc H vs bs → Reps K enc H ws cs → Reps K enc H (vs ++ ws) (bs ++ cs)
  | _, _, _, _, .nil, h => h
  | _, _, _, _, .cons a t, h => .cons a (t.app h)
theorem Reps.all {K : PySem.W.Frag} {β : Type} {enc : β → PyData} {H : Hp} : ∀ {vs : List V} {bs : List β}, Reps K enc H vs bs → DpAll K H vs (bs.map enc)
  | _, _, .nil => .nil
  | _, _, .cons a t => .cons a t.all
theorem Reps.get {K : PySem.W.Frag} {β : Type} {enc : β → PyData} {H : Hp} : ∀ {vs : List V} {bs : List β} {i : Nat} {v : V}, Reps K enc H vs bs → vs[i]? = some v → ∃ b, bs[i]? = some b ∧ Dp K H v (enc b)
  | _, _, i, v, .nil, e => by simp at e
  | _, _, 0, v, .cons a t, e => by
    simp at e
    subst e
    exact ⟨_, rfl, a⟩
  | _, _, i + 1, v, .cons a t, e => by
    simp at e
    obtain ⟨b, h1, h2⟩ := t.get e
    exact ⟨b, by simpa using h1, h2⟩
/-- a raw value that stands for data, with its abstract one -/
def Stands (K : PySem.W.Frag) {β : Type} (enc : β → PyData) (H : Hp) (u : Value) (b : β) : Prop := ∃ v, RelV v u ∧ Dp K H v (enc b)
theorem stands_of {K : PySem.W.Frag} {β : Type} {enc : β → PyData} {H : Hp} : ∀ {vs : List V} {bs : List β} {us : List Value}, Reps K enc H vs bs → Vals vs us → PySem.W.EachIs (Stands K enc H) us bs
  | _, _, _, .nil, .nil => .nil
  | _, _, _, .cons a t, .cons r q => .cons ⟨_, r, a⟩ (stands_of t q)
theorem of_stands {K : PySem.W.Frag} {β : Type} {enc : β → PyData} {H : Hp} : ∀ {us : List Value} {bs : List β}, PySem.W.EachIs (Stands K enc H) us bs → ∃ vs, Vals vs us ∧ Reps K enc H vs bs
  | _, _, .nil => ⟨[], .nil, .nil⟩
  | _, _, .cons ⟨v, r, a⟩ t => by
    obtain ⟨vs, q, h⟩ := of_stands t
    exact ⟨v :: vs, .cons r q, .cons a h⟩
theorem stands_reads {β : Type} {enc : β → PyData} {pins : List (Addr × Obj)} {s : Shared} {σ : L2.St} {H : Hp} (I : Inv X pins σ H s) {us : List Value} {bs : List β} (h : PySem.W.EachIs (Stands X.K enc H) us bs) : PySem.W.EachIs (fun v b => ∃ as, Reads s.heap v (enc b) as) us bs :=
  h.mono fun u b ⟨v, r, a⟩ => Dp.reads I (enc b) v u a r
/-- sorted(l) of data -/
def rSortD (K : PySem.W.Frag) {β : Type} (enc : β → PyData) : List V → Hp → VK → Prop := fun vs H Q => ∃ (a : Addr) (xs : List V) (bs : List β), vs = [.ref a] ∧ SqL K H a xs ∧ Reps K enc H xs bs ∧ PySem.W.AllAlike (bs.map enc) ∧ PySem.W.Sortable (bs.map enc) ∧ bs.length ≤ 1000 ∧ (∀ b ∈ bs, (enc b).depth ≤ 20) ∧
  ∀ p H' ys, Same H H' → H p = none → H' p = some (.lst ys) → Reps K enc H' ys (bs.mergeSort (PySem.W.dataLe false enc)) → Q (.ref p) H'
theorem cr_sortD (hu : X.A.units + 64 < cLine) {β : Type} (enc : β → PyData) : CallR X (.builtin "sorted") (rSortD X.K enc) := by
  intro pins s σ H vs us Q I r h
  obtain ⟨a, xs, bs, rfl, hs, hr, hal, hk, hl, hd, q⟩ := h
  obtain rfl := Vals.ref1 r
  obtain ⟨its, rv, p', hz⟩ := I.list hs
  have e := stands_of hr rv
  have lits := rv.length
  have lx := hr.len
  refine PySem.W.sorted_data (s := s) (R := Stands X.K enc H) (enc := enc) p'.isList e (stands_reads I e) hal hk (Nat.le_of_lt (small1000 hl)) (fun b hb => ?_) fun out lo eo => ?_
  · have := hd b hb
    omega
  · obtain ⟨ys, ry, py⟩ := of_stands eo
    have keep : ∀ b o, s.heap.get? b = some o → (sortedAll s.heap its out.toArray).get? b = some o := fun b o => sortedAll_old
    have lo' := ry.length
    have nf : H (s.heap.objs.size + 1) = none := I.hok.fresh (Nat.le_succ _)
    obtain ⟨c, hc⟩ := sortedAll_at s.heap its out.toArray
    have small : ys.length ≤ sizeLine := by rw [lo', lo]; exact Nat.le_of_lt (small1000 hl)
    refine ⟨.ref (s.heap.objs.size + 1), upd H (s.heap.objs.size + 1) (.lst ys), I.laid (t' := s.toks) keep (Nat.le_succ _) ⟨small, out, c, ry, hc⟩, rfl, ?_⟩
    exact q _ _ ys (same_new nf) nf upd_same (py.mono (same_new nf))
end
end FS

set_option Elab.async false
set_option linter.all false
set_option maxRecDepth 100000
set_option maxHeartbeats 4000000
/-! sorted(found, key=lambda x: (len(x), x)) of data that are tuples. -/
namespace FS
open PySem PySem.Spec PyProof.Rows L2 LamX
/-- the lambda's body: (len(x), x) -/
def lkBody (x : Str) (p1 p2 p3 p4 p5 : Pos) (k : Nat) : Expr := .Tuple [.Call (.Name "len" p1) [.Name x p2] [] p3, .Name x p4] k p5
def lkScope (x : Str) : Scope := { kind := .function, names := [(x, .local), ("len", .globalImplicit)], isGenerator := false, isCoroutine := false, more := [] }
def lkArgs (x : Str) (p : Pos) : Arguments := { posonlyargs := [], args := [{ arg := x, annotation := none, pos := p }], vararg := none, kwonlyargs := [], kw_defaults := [], kwarg := none, defaults := [] }
section
variable {X : Cx} {pins : List (Addr × Obj)} {σ : L2.St} {H : Hp} {s : Shared}
theorem ld_ref {E : Value → Shared → Prop} {i : Nat} {x : Str} {a : Addr} {pos : Pos} {Q : Value → Shared → Prop} (I : Inv X pins σ H s) (hN : X.N[i]? = some x) (e : σ[i]? = some (some (.ref a))) (hv : X.env.scope.names.lookup x = some .local) (h : Q (.ref a) s)
    (hd : (x == ("__debug__" : Str)) = false := by decide) : wpAny (model X.prog X.w) X.A (eval (.Name x pos) X.env) Q E s := by
  obtain ⟨m, hn, hl⟩ := I.loc
  obtain ⟨u, r, l⟩ := hl i x _ hN e (.inl hv)
  obtain rfl : u = Value.ref a := r
  rcases l with ⟨hk, hm⟩ | ⟨hk, c, hc, hcell⟩
  · exact wpAny_Name (wpAny_loadName_local I.ok.kind hk hn hm h) hd
  · have hv' : X.env.kindOf x = some .local := hv
    rcases hk with hk | hk <;> rw [hv'] at hk <;> cases hk
theorem lk_call {f c' : Addr} {q : Str} {pm ctv : Value} {pa p1 p2 p3 p4 p5 : Pos} {k : Nat} (I : Inv X pins σ H s) (hr : Room 1 X.A) (hf : s.heap.get? f = some (PySem.W.kla_obj "<lambda>" q (lkArgs "parts" pa) (lkBody "parts" p1 p2 p3 p4 p5 k) (lkScope "parts") [] pm c' ctv))
    (hcd : s.heap.CodeRec (.ref c') q) (zn : X.mg "len" = none) {u : Value} {ds : List PyData} (hu : ∃ as, Reads s.heap u (.tuple ds) as) (hal : ∀ as, Reads s.heap u (.tuple ds) as → as = []) (hz : ds.length ≤ 1000) (h : Heap) (tk : Nat) (keep : ∀ b o, s.heap.get? b = some o → h.get? b = some o) :
    wpAny (model X.prog X.w) X.A.in1.in1 (call (.ref f) [u]) (PySem.W.KeyPure (.tuple [.int ds.length, .tuple ds]) { s with heap := h, toks := tk }) (fun _ _ => False) { s with heap := h, toks := tk } := by
  have I1 : Inv X pins σ H { s with heap := h, toks := tk } := I.kept keep
  obtain ⟨as, hR⟩ := hu
  have ea := hal as hR
  subst ea
  cases hR with
  | @tuple a o vs n _ _ ho hcl hdt hall =>
    obtain ⟨c, oc, vq, tq, ec, hoc, hdc, hvq⟩ := hcd
    cases ec
    refine wpAny_call (PySem.W.kla_callFunE (by have := hr.dp; show X.A.depth < _; omega) (keep _ _ hf) rfl rfl rfl rfl ⟨c', oc, vq, tq, rfl, keep _ _ hoc, hdc, hvq⟩ ?_)
    refine wpAny_pure ?_
    have e0 : Env0 X.prog X.w X.K X.mg X.base X.A.in1.in1 X.stack { s with heap := h, toks := tk } H := I1.env0.in1.in1
    have S : FnScope ["parts"] ["parts"] (lkScope "parts") := ⟨rfl, rfl, rfl, by decide +kernel, rfl, by decide +kernel, by decide +kernel⟩
    refine wpAny_newFunctionEnv_cells (scope := lkScope "parts") rfl (fun y hy => ?_) fun env he s2 x => ?_
    · have hy : y ∈ [(("parts" : Str), Value.ref a)] := hy
      have hy : y = (("parts" : Str), Value.ref a) := List.mem_singleton.mp hy
      subst hy
      exact .inl rfl
    subst he
    refine ⟨I1.nolimit.keeps x.toInCall.keep, ?_⟩
    have hk := x.toInCall.keep
    have J : Inv (cxOf L2.CX0 X.prog X.w X.K X.mg X.base ["parts"] q (lkScope "parts") f (.ref c') X.A.in1.in1 X.stack { s with heap := h, toks := tk } H (fun _ _ _ => False)) [] (L2.start ["parts"] [V.ref a]) H s2 :=
      inv_start S hr.hd e0 rfl (.cons rfl .nil) x
    refine PySem.W.kla_codeExpr ?_
    obtain ⟨h2, tk2, rfl, hk2⟩ := x.done
    have T : h2.get? a = some o := hk2 _ _ (keep _ _ ho)
    have lv : vs.size = ds.length := by
      have := ReadsAll.lenAny hall
      rw [← this, Array.length_toList]
    have hz' := line63
    refine wpAny_Tuple_spliced ?_
    show wpAny _ _ (spliced ((false, eval (.Call (.Name "len" p1) [.Name "parts" p2] [] p3) _) :: (false, eval (.Name "parts" p4) _) :: [])) _ _ _
    refine Calls.spliced_cons (wpAny_Call_Name_kw (ld_blt J rfl zn boot_len (PyProof.Rows.callWith_builtin1 ?_)))
    show wpAny _ _ (spliced ((false, eval (.Name "parts" p2) _) :: [])) _ _ _
    refine Calls.spliced_cons (ld_ref (i := 0) J rfl rfl rfl (Calls.spliced_nil (len_tuple (s := { heap := h2, gens := s.gens, drawn := s.drawn, toks := tk2, os := s.os }) (items := vs) ⟨o, T, hcl, n, hdt⟩ (by omega) ?_)))
    refine Calls.spliced_cons (ld_ref (i := 0) (J.tok _) rfl rfl rfl (Calls.spliced_nil ⟨by show 2 ≤ sizeLine; decide, ?_⟩))
    refine ⟨_, _, rfl, fun b ob e => Heap.get?_push_of_some _ (hk2 _ _ e), ?_⟩
    have ra : ReadsAll (h2.push { cls := .type "tuple", data := .seq #[Value.int vs.size (tk2 + 1), Value.ref a] }) vs.toList ds [] := ReadsAll.keeps (fun b ob e => Heap.get?_push_of_some _ (hk2 _ _ (keep _ _ e))) hall
    rw [← lv]
    exact .tuple (vs := #[Value.int vs.size (tk2 + 1), Value.ref a]) (as := []) (Heap.get?_push_size _ rfl) rfl rfl (.cons (as := []) (bs := []) (.int _ _) (.cons (as := []) (bs := []) (.tuple (Heap.get?_push_of_some _ T) hcl hdt ra) .nil))
end
/-! ### data under heaps in which tables grow -/
theorem seq_ext {K : PySem.W.Frag} {H H' : Hp} {a : Addr} {xs : List V} (s : ExtN H H') (h : SqL K H a xs) : SqL K H' a xs := by
  rcases h with (h | ⟨o, h⟩) | h
  · exact .inl (.inl (s _ _ h fun ps z => by cases z))
  · exact .inl (.inr ⟨o, s _ _ h fun ps z => by cases z⟩)
  · exact .inr h
theorem tup_ext {K : PySem.W.Frag} {H H' : Hp} {a : Addr} {xs : List V} (s : ExtN H H') (h : SqT K H a xs) : SqT K H' a xs := by
  rcases h with (h | ⟨o, h⟩) | h
  · exact .inl (.inl (s _ _ h fun ps z => by cases z))
  · exact .inl (.inr ⟨o, s _ _ h fun ps z => by cases z⟩)
  · exact .inr h
mutual
theorem Dp_ext {K : PySem.W.Frag} {H H' : Hp} (s : ExtN H H') : ∀ (d : PyData) (v : V), Dp K H v d → Dp K H' v d
  | .none, _, h => by cases h; exact .non
  | .bool b, _, h => by cases h; exact .bl b
  | .int i, _, h => by cases h; exact .int i
  | .str x, _, h => by cases h; exact .str x
  | .list ds, _, h => by
    cases h with
    | lst hs ha => exact .lst (seq_ext s hs) (DpAll_ext s ds _ ha)
  | .tuple ds, _, h => by
    cases h with
    | tup hs ha => exact .tup (tup_ext s hs) (DpAll_ext s ds _ ha)
  | .dict _, _, h => by cases h
theorem DpAll_ext {K : PySem.W.Frag} {H H' : Hp} (s : ExtN H H') : ∀ (ds : List PyData) (vs : List V), DpAll K H vs ds → DpAll K H' vs ds
  | [], _, h => by cases h; exact .nil
  | d :: ds, _, h => by
    cases h with
    | cons h1 h2 => exact .cons (Dp_ext s d _ h1) (DpAll_ext s ds _ h2)
end
theorem Reps.ext {K : PySem.W.Frag} {β : Type} {enc : β → PyData} {H H' : Hp} (s : ExtN H H') : ∀ {vs : List V} {bs : List β}, Reps K enc H vs bs → Reps K enc H' vs bs
  | _, _, .nil => .nil
  | _, _, .cons a t => .cons (Dp_ext s _ _ a) (t.ext s)
/-- groups of texts, and what they are sorted by -/
def dPs (b : List (List Str)) : PyData := .tuple (b.map fun g => .tuple (g.map .str))
def keyPs (b : List (List Str)) : PyData := .tuple [.int b.length, dPs b]
theorem depth_strs : ∀ g : List Str, PyData.depthAll (g.map .str) = 0
  | [] => by simp [PyData.depthAll]
  | x :: r => by
    show PyData.depthAll (.str x :: r.map .str) = 0
    simp [PyData.depthAll, PyData.depth, depth_strs r]
theorem depth_groups : ∀ b : List (List Str), PyData.depthAll (b.map fun g => PyData.tuple (g.map .str)) ≤ 1
  | [] => by simp [PyData.depthAll]
  | g :: r => by
    have := depth_groups r
    show PyData.depthAll (PyData.tuple (g.map .str) :: _) ≤ 1
    simp only [PyData.depthAll, PyData.depth, depth_strs g]
    omega
theorem depth_key (b : List (List Str)) : (keyPs b).depth ≤ 5 := by
  have := depth_groups b
  simp only [keyPs, dPs, PyData.depth, PyData.depthAll]
  omega
theorem depth_dPs (b : List (List Str)) : (dPs b).depth ≤ 5 := by
  have := depth_groups b
  simp only [dPs, PyData.depth]
  omega
theorem alike_strs : ∀ a b : List Str, PySem.W.alikeAll (a.map .str) (b.map .str) = true
  | [], _ => by simp [PySem.W.alikeAll]
  | _ :: _, [] => by simp [PySem.W.alikeAll]
  | x :: r, y :: q => by
    show PySem.W.alikeAll (.str x :: r.map .str) (.str y :: q.map .str) = true
    rw [PySem.W.alikeAll, alike_strs r q]
    simp [PySem.W.alike]
theorem alike_groups : ∀ a b : List (List Str), PySem.W.alikeAll (a.map fun g => PyData.tuple (g.map .str)) (b.map fun g => PyData.tuple (g.map .str)) = true
  | [], _ => by simp [PySem.W.alikeAll]
  | _ :: _, [] => by simp [PySem.W.alikeAll]
  | x :: r, y :: q => by
    show PySem.W.alikeAll (PyData.tuple (x.map .str) :: r.map fun g => PyData.tuple (g.map .str)) (PyData.tuple (y.map .str) :: q.map fun g => PyData.tuple (g.map .str)) = true
    rw [PySem.W.alikeAll, alike_groups r q]
    simp [PySem.W.alike, alike_strs]
theorem alike_key (a b : List (List Str)) : PySem.W.alike (keyPs a) (keyPs b) = true := by
  simp [keyPs, dPs, PySem.W.alike, PySem.W.alikeAll, alike_groups]
theorem reads_strs {h : Heap} : ∀ (g : List Str) (vs : List Value) (as : List Addr), ReadsAll h vs (g.map .str) as → as = []
  | [], _, _, h => by cases h; rfl
  | x :: r, _, _, h => by
    have h : ReadsAll _ _ (.str x :: r.map .str) _ := h
    cases h with
    | cons h1 h2 =>
      cases h1
      rw [reads_strs r _ _ h2]
      rfl
theorem reads_groups {h : Heap} : ∀ (b : List (List Str)) (vs : List Value) (as : List Addr), ReadsAll h vs (b.map fun g => PyData.tuple (g.map .str)) as → as = []
  | [], _, _, h => by cases h; rfl
  | g :: r, _, _, h => by
    have h : ReadsAll _ _ (PyData.tuple (g.map .str) :: r.map fun g => PyData.tuple (g.map .str)) _ := h
    cases h with
    | cons h1 h2 =>
      cases h1 with
      | tuple _ _ _ h3 => rw [reads_strs g _ _ h3, reads_groups r _ _ h2]; rfl
theorem reads_dPs {h : Heap} {u : Value} (b : List (List Str)) (as : List Addr) (hR : Reads h u (dPs b) as) : as = [] := by
  unfold dPs at hR
  cases hR with
  | tuple _ _ _ h3 => exact reads_groups b _ _ h3
section
variable {X : Cx}
def tSortLam (K : PySem.W.Frag) (P : Addr) (q : Str) (te : TE) : TE := fun σ H Q => te σ H fun x H1 => ∃ (a : Addr) (xs : List V) (bs : List (List (List Str))), x = .ref a ∧ H1 a = some (.lst xs) ∧ Reps K dPs H1 xs bs ∧ bs.length ≤ 1000 ∧ (∀ b ∈ bs, b.length ≤ 1000) ∧ TabS H1 P q ∧
  ∀ p H' ys, ExtN H1 H' → TabS H' P q → H' p = some (.lst ys) → Reps K dPs H' ys (bs.mergeSort (PySem.W.dataLe false keyPs)) → Q (.ref p) H'
theorem pe_sortLam {e : Expr} {te : TE} {c P : Addr} {pa p1 p2 p3 p4 p5 p kpos lpos pos : Pos} {k : Nat} (hg : Gl X "sorted") (hm : X.mg "sorted" = none) (zn : X.mg "len" = none) (hr : Room 1 X.A) (TB : TabB X.base X.mg c P) (hcode : X.env.code = .ref c) (he : PE X e te)
    (hs : starEach [e] X.env = [(false, eval e X.env)] := by rfl) :
    PE X (.Call (.Name "sorted" p) [e] [⟨some "key", .Lambda (lkArgs "parts" pa) (lkBody "parts" p1 p2 p3 p4 p5 k) (lkScope "parts") lpos, kpos⟩] pos) (tSortLam X.K P (X.env.qual ++ "<lambda>") te) := by
  refine ⟨fun pins s σ H Q I h => ?_⟩
  refine wpAny_Call_Name_kw (ld_blt (u := .builtin "sorted") I hg hm (by decide +kernel) ?_)
  refine PyProof.Rows.callWith_kw ?_ (by rw [hs]; rfl) (by rw [hs]; rfl) (by rfl) (by rfl)
  rw [hs]
  show wpAny _ _ (spliced ((false, eval e X.env) :: [])) _ _ _
  refine Calls.spliced_cons (thn (he.run pins s σ H _ I h) fun u s1 ⟨x, H1, I1, rx, q1⟩ => Calls.spliced_nil ?_)
  obtain ⟨a, xs, bs, rfl, ha, hR, hl, hb, hT, q⟩ := q1
  obtain rfl : u = Value.ref a := rx
  show wpAny _ _ (evalAll ((do let v ← eval (.Lambda (lkArgs "parts" pa) (lkBody "parts" p1 p2 p3 p4 p5 k) (lkScope "parts") lpos) X.env; standAt pos; pure v) :: [])) _ _ s1
  refine wpAny_evalAll_cons (wpAny_bind (lam_make2 (T := [(P, X.env.qual ++ "<lambda>")]) I1 TB hcode (by simp) (fun p' hp _ => by rw [List.mem_singleton.mp hp]) (fun p' hp => by rw [List.mem_singleton.mp hp]; exact hT) rfl (fun y hy hf => ?_) fun f c' pm ctv H2 s2 I2 eN T2 hf hfn hfr hco => wpAny_bind (wpAny_standAt (wpAny_pure (wpAny_evalAll_nil ?_)))))
  · have hy : y ∈ [(("parts" : Str), NameKind.local), ("len", NameKind.globalImplicit)] := hy
    simp only [List.mem_cons, List.not_mem_nil, or_false] at hy
    rcases hy with rfl | rfl <;> cases hf
  show wpAny _ _ (call (.builtin "sorted") [.ref a] [(Str.ofString "key", .ref f)]) _ _ s2
  have ha2 : H2 a = some (.lst xs) := eN _ _ ha (fun ps z => by cases z)
  have hR2 := hR.ext eN
  obtain ⟨its, rv, p', hz⟩ := I2.list (SqL.of ha2)
  have e1 := stands_of hR2 rv
  obtain ⟨⟨oc, vq, tq, hoc, hdc, hvq⟩, _, _⟩ := I2.hok c' _ hco
  refine PySem.W.sorted_key_data (s := s2) (b := false) (R := Stands X.K dPs H2) keyPs p'.isList e1 (PySem.W.AllAlike.of fun b b' => alike_key b b') (PySem.W.Sortable.tuples fun b => ⟨_, _, rfl⟩) (Nat.le_of_lt (small1000 hl)) (fun b hb' => ?_) (ksk_s1 _ _) (fun _ => ksk_l1 _ _) (fun _ => ksk_t1 _ _)
    (fun v b hv hbm h' tk kp => ?_) fun out c0 h' tk kp fr hD lo eo => ?_
  · have h1 := depth_key b
    have h2 := hr.un
    omega
  · obtain ⟨v', r', d'⟩ := hv
    have rd := Dp.reads I2 (dPs b) v' v d' r'
    have e3 := lk_call (ds := b.map fun g => .tuple (g.map .str)) I2 hr hf ⟨c', oc, vq, tq, rfl, hoc, hdc, hvq⟩ zn rd (fun as hR' => reads_dPs b as hR') (by rw [List.length_map]; exact hb b hbm) h' tk kp
    rw [List.length_map] at e3
    exact e3
  · obtain ⟨ys, ry, py⟩ := of_stands eo
    have lo' := ry.length
    have nf : H2 (s2.heap.objs.size + 1) = none := I2.hok.fresh (Nat.le_succ _)
    have small : ys.length ≤ sizeLine := by rw [lo', lo]; exact Nat.le_of_lt (small1000 hl)
    refine ⟨.ref (s2.heap.objs.size + 1), upd H2 (s2.heap.objs.size + 1) (.lst ys), I2.laid (t' := tk) kp (Nat.le_succ _) ⟨small, out, c0, ry, hD⟩, rfl, ?_⟩
    have sN := same_new (o := .lst ys) nf
    have t2 : TabS H2 P (X.env.qual ++ "<lambda>") := T2 (P, X.env.qual ++ "<lambda>") (List.mem_singleton.mpr rfl)
    exact q _ _ ys (eN.trans (ExtN.of sN)) (t2.ext sN) upd_same (py.mono sN)
end
end FS

set_option Elab.async false
set_option linter.all false
set_option maxRecDepth 100000
set_option maxHeartbeats 4000000
/-! Partitions: as the program makes them, and as the law does. -/
namespace K2
open PySem
def withName (p : List (List Str)) (x : Str) : List (List (List Str)) := ((List.range p.length).map fun i => p.take i ++ [(p.getD i []) ++ [x]] ++ p.drop (i + 1)) ++ [p ++ [[x]]]
def grow (F : List (List (List Str))) (x : Str) : List (List (List Str)) := (F.map fun p => withName p x).flatten
def made (ns : List Str) : List (List (List Str)) := ns.foldl grow [[]]
/-- how many parts the marks have -/
def cnt : List Nat → Nat
  | [] => 0
  | k :: r => max (k + 1) (cnt r)
def longer (M : List (List Nat)) : List (List Nat) := (M.map fun m => (List.range (cnt m + 1)).map fun k => m ++ [k]).flatten
def marks : Nat → List (List Nat)
  | 0 => [[]]
  | n + 1 => longer (marks n)
def partsOf (ns : List Str) (m : List Nat) : List (List Str) := (List.range (cnt m)).map fun j => ((ns.zip m).filter fun z => z.2 == j).map (·.1)
theorem made_eq : ∀ ns : List Str, ns.length ≤ 5 → made ns = (marks ns.length).map (partsOf ns)
  | [], _ => by kernel_rfl
  | [a], _ => by kernel_rfl
  | [a, b], _ => by kernel_rfl
  | [a, b, c], _ => by kernel_rfl
  | [a, b, c, d], _ => by kernel_rfl
  | [a, b, c, d, e], _ => by kernel_rfl
  | _ :: _ :: _ :: _ :: _ :: _ :: _, h => by simp at h
/-- the shape of what is made, by the number of names -/
def shp (L : List (List (List Str))) : List (List Nat) := L.map fun p => p.map List.length
def shapes (n : Nat) : List (List Nat) := shp (made (List.replicate n ""))
theorem shp_eq : ∀ ns : List Str, ns.length ≤ 6 → shp (made ns) = shapes ns.length
  | [], _ => by kernel_rfl
  | [a], _ => by kernel_rfl
  | [a, b], _ => by kernel_rfl
  | [a, b, c], _ => by kernel_rfl
  | [a, b, c, d], _ => by kernel_rfl
  | [a, b, c, d, e], _ => by kernel_rfl
  | [a, b, c, d, e, f], _ => by kernel_rfl
  | _ :: _ :: _ :: _ :: _ :: _ :: _ :: _, h => by simp at h
theorem shapes_ok : ∀ n : Nat, n < 7 → (shapes n).length ≤ 203 ∧ ((shapes n).all fun s => decide (s.length ≤ 6) && s.all fun l => decide (l ≤ 6)) = true := by decide +kernel
theorem made_len (ns : List Str) (h : ns.length ≤ 6) : (made ns).length ≤ 203 ∧ ∀ p ∈ made ns, p.length ≤ 6 ∧ ∀ g ∈ p, g.length ≤ 6 := by
  have e := shp_eq ns h
  obtain ⟨h1, h2⟩ := shapes_ok ns.length (by omega)
  have le : (made ns).length = (shapes ns.length).length := by rw [← e]; unfold shp; rw [List.length_map]
  refine ⟨by omega, fun p hp => ?_⟩
  have hm : p.map List.length ∈ shapes ns.length := by rw [← e]; exact List.mem_map.mpr ⟨p, hp, rfl⟩
  have h3 := List.all_eq_true.mp h2 _ hm
  rw [Bool.and_eq_true] at h3
  obtain ⟨h4, h5⟩ := h3
  have h4 := of_decide_eq_true h4
  rw [List.length_map] at h4
  exact ⟨h4, fun g hg => of_decide_eq_true (List.all_eq_true.mp h5 _ (List.mem_map.mpr ⟨g, hg, rfl⟩))⟩
theorem six_len (ns : List Str) (h : ns.length = 6) : (made ns).length = 203 := by
  have e := shp_eq ns (by omega)
  have le : (made ns).length = (shapes ns.length).length := by rw [← e]; unfold shp; rw [List.length_map]
  rw [le, h]
  decide +kernel
end K2

set_option Elab.async false
set_option linter.all false
set_option maxRecDepth 100000
set_option maxHeartbeats 4000000
/-! enumerate of a tuple. -/
namespace FS
open PySem PySem.Spec PyProof.Rows L2
set_option maxHeartbeats 1000000 in
theorem meets_enumT {v : Value} {o : Obj} {H : Heap → Prop} (B : Begins v o H) :
    Meets (Builtin.«enumerate.__new__» ⟨[.type "enumerate", v], []⟩) (fun _ R s => H s.heap ∧
      R (.ok (.ret (.ref (s.heap.push o).objs.size))) { s with heap := (s.heap.push o).push { cls := .type "enumerate", data := .fields #[.none, .bool false, .ref s.heap.objs.size, rawInt 0, .none, .none] } }) :=
  .of_wp fun prog w A R s h => by
    obtain ⟨hp, g, d, tk, os⟩ := s; obtain ⟨h1, h⟩ := h
    have hsub := sub_enumerate
    have q1 : ∀ {A' : Around} {E : Value → Shared → Prop} {Q : Value → Shared → Prop}, Q (.ref hp.objs.size) ⟨hp.push o, g, d, tk, os⟩ → wpAny (model prog w) A' (pyIter v) Q E ⟨hp, g, d, tk, os⟩ :=
      fun q => B.iter prog w _ _ ⟨hp, g, d, tk, os⟩ _ h1 q
    wp_walk using q1
    refine wpAny_stack_any fun st => wpAny_pure ?_
    split
    · rename_i c _ _ _ _ _
      cases (c == Value.type "enumerate")
      · wp_walk using q1
        exact ⟨_, rfl, h⟩
      · wp_walk using q1
        exact ⟨_, rfl, h⟩
    · wp_walk using q1
      exact ⟨_, rfl, h⟩
section
variable {prog : Program} {w : World} {A : Around} {E : Value → Shared → Prop} {s : Shared}
theorem enumT_begins {v : Value} {o : Obj} {H : Heap → Prop} {Q : Value → Shared → Prop} (B : Begins v o H) (h1 : H s.heap)
    (h : ∀ h', IsEnum h' (s.heap.objs.size + 1) s.heap.objs.size 0 .none → h'.get? s.heap.objs.size = some o → h'.objs.size = s.heap.objs.size + 2 →
      (∀ b o, s.heap.get? b = some o → h'.get? b = some o) → Q (.ref (s.heap.objs.size + 1)) { s with heap := h' }) :
    wpAny (model prog w) A (call (.type "enumerate") [v]) Q E s := by
  refine callType_new F.called_enumerate (by decide) (F.typeCall_enumerate_1 _) (F.newCall_enumerate_1 _) (fun obj => F.args_object_init_2 obj _) F.entry_enumerate_new
    (meets_enumT B) ⟨h1, ?_⟩
  have hz : (s.heap.push o).objs.size = s.heap.objs.size + 1 := Heap.size_push ..
  show _ ∧ _
  rw [hz]
  have he : IsEnum ((s.heap.push o).push { cls := .type "enumerate", data := .fields #[.none, .bool false, .ref s.heap.objs.size, rawInt 0, .none, .none] }) (s.heap.objs.size + 1) s.heap.objs.size 0 .none := by
    have := Heap.get?_push_size (s.heap.push o) (o := { cls := .type "enumerate", data := .fields #[.none, .bool false, .ref s.heap.objs.size, rawInt 0, .none, .none] }) rfl
    rw [hz] at this; exact this
  refine ⟨⟨_, he, rfl⟩, h _ he (Heap.get?_push_of_some _ (Heap.get?_push_size _ B.free)) (by rw [Heap.size_push, hz]) fun b o x => Heap.get?_push_of_some _ (Heap.get?_push_of_some _ x)⟩
end
/-- the tuple at a, each item in a new pair -/
def Itn (K : PySem.W.Frag) (a : Addr) : It :=
  ⟨fun i H => ∃ (xs : List V) (x : V), SqT K H a xs ∧ xs[i]? = some x, fun i H v H' => ∃ T x, v = .ref T ∧ H T = none ∧ H' = upd H T (.tup [.int (i : Nat), x]) ∧ ∀ xs, SqT K H a xs → xs[i]? = some x, fun i H => ∃ xs : List V, SqT K H a xs ∧ xs.length = i⟩
theorem turn_enumT {P : Program} {w : World} {K : PySem.W.Frag} {elts : List Expr} {kk : Nat} {tpos : Pos} (a e it : Addr) (nea : e ≠ a) (nai : a ≠ it) :
    Turn P w K (.Tuple elts kk tpos) (Itn K a) [e, it] e (fun i h => (∃ old, IsEnum h e it ((i : Nat) : Int) old) ∧ h.IsTupleIter it a i ∧ e ≠ it) where
  mem := by simp
  obj := fun i h st b hb => by
    obtain ⟨⟨old, he⟩, ⟨o, ho, hc, hd⟩, _⟩ := st
    have e' : b = e ∨ b = it := by simpa using hb
    rcases e' with z | z
    · rw [z]; exact ⟨_, he, fun v q => nomatch q⟩
    · rw [z]; exact ⟨o, ho, fun v q => by rw [hd] at q; cases q⟩
  keep := fun i h h' st k => let ⟨⟨old, he⟩, hi, hne⟩ := st; ⟨⟨old, k e (by simp) _ he⟩, hi.at fun o q => k it (by simp) o q, hne⟩
  item := by
    intro X hP hw hK hc i pins s σ H E I hf st hg
    subst hP hw hK
    obtain ⟨⟨old, he⟩, hit, hne⟩ := st
    obtain ⟨xs, x, hq, hx⟩ := hg
    obtain ⟨its, rv, p, hz⟩ := I.tuple hq
    obtain ⟨u, hu, ru⟩ := rv.get hx
    have hh : X.A.in1.handled = none := I.ok.hd hc
    have hu' : its.toArray[i]? = some u := by simpa using hu
    have l1 : i < its.toArray.size := (Array.getElem?_eq_some_iff.mp hu').1
    have hel : e < s.heap.objs.size := Heap.lt_size he
    have hil : it < s.heap.objs.size := by obtain ⟨_, q, _⟩ := hit; exact Heap.lt_size q
    have p' : s.heap.IsTuple a its.toArray := p
    refine wpAny_pyNext_enum_itemD (Draws.tuple hh it a nai its.toArray) he ⟨hit, p'⟩ l1 hne (by simp [hne, nea]) fun u2 h' tk hP ho hit' hT hsz hk => ?_
    have eu : u2 = u := by
      have hP : its.toArray[i]? = some u2 := hP
      rw [hu'] at hP
      exact (Option.some.inj hP).symm
    subst eu
    refine ⟨_, rfl, wpAny_letOwnedTupleGo_enum (s := { s with heap := h', toks := tk + 1 }) ho fun h'' he' sb => ?_⟩
    have hT2 : h''.get? s.heap.objs.size = some { cls := .type "tuple", data := .seq #[.int i tk, u2] } := (sb.2 _ (Nat.ne_of_gt hel)).trans hT
    have new : ObjOk X.prog X.w (upd H s.heap.objs.size (.tup [.int (i : Nat), x])) h'' s.heap.objs.size (.tup [.int (i : Nat), x]) :=
      ⟨by show 2 ≤ sizeLine; decide, [.int i tk, u2], .cons ⟨_, rfl⟩ (.cons ru .nil), ⟨_, hT2, rfl, _, rfl⟩⟩
    have I1 : Inv X pins σ (upd H s.heap.objs.size (.tup [.int (i : Nat), x])) { s with heap := h'', toks := tk + 1 } :=
      I.turnedNew (ch := [e, it]) (fun b ob hb q => (sb.2 b (fun z => hb (by simp [z]))).trans (hk b ob (fun z => hb (by simp [z])) (fun z => hb (by simp [z])) q)) hf (Nat.le_refl _) new
    refine ⟨.ref s.heap.objs.size, _, I1, rfl, ⟨_, x, rfl, I.hok.fresh (Nat.le_refl _), rfl, fun ys hy => by rw [I.tuple_inj hy hq]; exact hx⟩, ⟨⟨u2, ?_⟩, hit'.1.at fun o q => (sb.2 it (Ne.symm hne)).trans q, hne⟩, fun b hb => ?_⟩
    · have e1 : ((i + 1 : Nat) : Int) = (i : Int) + 1 := by omega
      rw [e1]; exact he'
    · have hb' : b < s.heap.objs.size := by
        have e' : b = e ∨ b = it := by simpa using hb
        rcases e' with z | z
        · rw [z]; exact hel
        · rw [z]; exact hil
      rw [upd_ne (Nat.ne_of_lt hb')]
      exact (hf b hb).1
  done := by
    intro X hP hw hK hc i pins s σ H E I hf st hg
    subst hP hw hK
    obtain ⟨⟨old, he⟩, hit, hne⟩ := st
    obtain ⟨xs, hq, hx⟩ := hg
    obtain ⟨its, rv, p, hz⟩ := I.tuple hq
    obtain ⟨f0, f1, f2, f3, f4, f5⟩ := hf it (by simp)
    have hl := rv.length
    have hh : X.A.in1.handled = none := I.ok.hd hc
    have p' : s.heap.IsTuple a its.toArray := p
    have ei : i = its.toArray.size := by simp; omega
    subst ei
    exact wpAny_pyNext_enum_endD (Draws.tuple hh it a nai its.toArray) he ⟨hit, p'⟩ fun h' eb => ⟨rfl, I.turned (t' := s.toks) (fun b o hb q => eb b o hb q) f0 f1 f3 f4 f5⟩
  self := fun A i s Q E st h => let ⟨⟨_, he⟩, _⟩ := st; wpAny_pyIter_enum he h
def iEnumT (K : PySem.W.Frag) (ta : TA) : TI := fun σ H R => ta σ H fun vs H1 => ∃ a xs, vs = [.ref a] ∧ SqT K H1 a xs ∧ R (Itn K a) H1
theorem pi_enumT {X : Cx} {e : Expr} {ta : TA} {p pos tpos : Pos} {elts : List Expr} {kk : Nat} (hg : Gl X "enumerate") (hm : X.mg "enumerate" = none) (ha : PA X [e] ta) (hs : starEach [e] X.env = [(false, eval e X.env)] := by rfl) :
    PI X (.Tuple elts kk tpos) (.Call (.Name "enumerate" p) [e] [] pos) (iEnumT X.K ta) := by
  refine ⟨fun pins s σ H R I h => ?_⟩
  refine Call_ (ld_blt I hg hm boot_enumerate (PyProof.Rows.callWith_type1 (thn (ha.run pos pins s σ H _ I h) fun us s1 ⟨vs, H1, I1, r1, q1⟩ => ?_) hs rfl))
  obtain ⟨a, xs, ex, hq, q⟩ := q1
  subst ex
  cases r1 with
  | cons r rr =>
    cases rr
    cases r
    obtain ⟨its, rv, p', hz⟩ := I1.tuple hq
    have pT : s1.heap.IsTuple a its.toArray := p'
    have la : a < s1.heap.objs.size := by
      obtain ⟨o, q, _⟩ := pT
      exact Heap.lt_size q
    refine enumT_begins (begins_tuple a its.toArray) pT fun h' he hit hsz hk => wpAny_pyIter_enum he ?_
    have I2 : Inv X pins σ H1 { s1 with heap := h' } := I1.kept (t' := s1.toks) hk
    refine ⟨s1.heap.objs.size + 1, [s1.heap.objs.size + 1, s1.heap.objs.size], _, _, H1, rfl, I2, turn_enumT a (s1.heap.objs.size + 1) s1.heap.objs.size (Nat.ne_of_gt (Nat.lt_succ_of_lt la)) (Nat.ne_of_lt la), ⟨⟨.none, he⟩, ⟨_, hit, rfl, rfl⟩, Nat.succ_ne_self _⟩, fun b hb => ?_, q⟩
    have e' : b = s1.heap.objs.size + 1 ∨ b = s1.heap.objs.size := by simpa using hb
    have hle : s1.heap.objs.size ≤ b := by
      rcases e' with z | z
      · rw [z]; exact Nat.le_add_right _ _
      · rw [z]; exact Nat.le_refl _
    exact I1.fpOk hle (I1.hok.fresh hle)
end FS

set_option Elab.async false
set_option linter.all false
set_option maxRecDepth 100000
set_option maxHeartbeats 4000000
/-! sorted of a tuple of texts. -/
namespace FS
open PySem PySem.Spec PyProof.Rows L2
section
variable {prog : Program} {w : World} {A : Around} {E : Value → Shared → Prop} {s : Shared}
theorem sorted_tup {l : Addr} {o : Obj} {vs : List Value} {n : Nat} {ss : List Str} {Q : Value → Shared → Prop} (ho : s.heap.get? l = some o) (hc : o.cls = .type "tuple") (hd : o.data = .seq vs.toArray n) (hS : StrsAre vs ss) (few : vs.length < 64)
    (fin : ∀ (h1 h' : Heap) out ys e, (∀ b o, s.heap.get? b = some o → h1.get? b = some o) → (∀ b o, h1.get? b = some o → h'.get? b = some o) → h'.get? h1.objs.size = some (seqObj "list" out e) → StrsAre out.toList ys → ys.Perm ss → sortedS ys = true → Q (.ref h1.objs.size) { s with heap := h' }) :
    wpAny (model prog w) A (call (.builtin "sorted") [.ref l]) Q E s := by
  have line : vs.toArray.size ≤ sizeLine := by rw [List.size_toArray]; exact Nat.le_of_lt (small1000 (by omega))
  refine Calls.call_function_entry kind_sorted plain_sorted entry_sorted (args_sorted1 _) ?_
  show wpAny _ _ (do checkCount "sorted" 1 1 1; let l ← newList (← collect (.ref l)); let _ ← holding [l] (call (.builtin "list.sort") [l] []); ret l) _ _ _
  refine wpAny_bind (m := checkCount "sorted" 1 1 1) (wpAny_pure (wpAny_bind (wpAny_collect_seq l (.inr rfl) ho hc hd (fun h1 k1 => wpAny_bind (wpAny_newList ?_)) line)))
  have at1 : (h1.push (seqObj "list" vs.toArray 0)).get? h1.objs.size = some (seqObj "list" vs.toArray 0) := Heap.get?_push_size _ rfl
  refine wpAny_bind (wpAny_holding (wpAny_call_entry slot_list_sort ⟨_, at1, rfl⟩ entry_list_sort (list_sort_treeK strKind_oneLt at1 hS.keysOf (fun a b r e => keyKind_strs (by rw [← e]; exact hS)) few fun st hp hs => ⟨_, rfl, ?_⟩) (args_list_sort _)))
  obtain ⟨ys, q1, q2, q3⟩ := sorted_out_str hS hp hs
  obtain ⟨e, at2⟩ := sortedHeap_at (out := (arrOf st).map (·.2)) at1
  refine wpAny_pure ⟨_, rfl, fin h1 _ _ ys e k1 (fun b ob hb => ?_) at2 q1 q2 q3⟩
  have lb := Heap.lt_size hb
  rw [sortedHeap_old (Nat.ne_of_lt lb) (by rw [size_push']; exact Nat.lt_succ_of_lt lb)]
  exact Heap.get?_push_of_some _ hb
end
section
variable {X : Cx}
theorem cr_sortedT : CallR X (.builtin "sorted") (fun vs H Q => ∃ (a : Addr) (xs : List Str), vs = [V.ref a] ∧ SqT X.K H a (xs.map V.str) ∧ xs.length < 64 ∧ ∀ (ys : List Str) (p : Addr) (H' : Hp), ys.Perm xs → sortedS ys = true → Same H H' → H p = none → H' p = some (.lst (ys.map V.str)) → Q (.ref p) H') := by
  intro pins s σ H vs us Q I r h
  obtain ⟨a, xs, rfl, ht, few, q⟩ := h
  obtain ⟨its, rv, ⟨o, ho, hc, n, hd⟩, line⟩ := I.tuple ht
  rw [Vals.ref1 r]
  have len := rv.length
  rw [List.length_map] at len
  refine sorted_tup ho hc hd rv.strs (by omega) fun h1 h' out ys e keep keep2 at_p so per srt => ?_
  have I1 : Inv X pins σ H { s with heap := h1 } := I.kept (t' := s.toks) keep
  have small : (ys.map V.str).length ≤ sizeLine := by rw [List.length_map, per.length_eq]; exact small64 few
  have nf : H h1.objs.size = none := I1.hok.fresh (Nat.le_refl _)
  refine ⟨.ref h1.objs.size, upd H h1.objs.size (.lst (ys.map V.str)), I1.laid (t' := s.toks) keep2 (Nat.le_refl _) ⟨small, out.toList, e, vals_of_strs so, at_p⟩, rfl, q ys _ _ per srt (same_new nf) nf upd_same⟩
theorem cr_sortedL : CallR X (.builtin "sorted") (fun vs H Q => ∃ (a : Addr) (xs : List Str), vs = [V.ref a] ∧ SqL X.K H a (xs.map V.str) ∧ xs.length < 64 ∧ ∀ (ys : List Str) (p : Addr) (H' : Hp), ys.Perm xs → sortedS ys = true → Same H H' → H p = none → H' p = some (.lst (ys.map V.str)) → Q (.ref p) H') := fun pins s σ H vs us Q I r ⟨a, xs, e, h, few, q⟩ =>
  cr_sortedS pins s σ H vs us Q I r ⟨a, xs, e, h, few, fun ys p per srt np => q ys p _ per srt (same_new np) np upd_same⟩
end
end FS

set_option Elab.async false
set_option linter.all false
set_option maxRecDepth 100000
set_option maxHeartbeats 4000000
/-! Comprehensions over a tuple whose values are known one by one. -/
namespace FS
open PySem PySem.Spec PyProof.Rows L2
theorem same_tup {K : PySem.W.Frag} {H H' : Hp} {a : Addr} {xs : List V} (e : Same H H') (h : SqT K H a xs) : SqT K H' a xs := by
  rcases h with (h | ⟨o, h⟩) | h
  · exact .inl (.inl (e _ _ h))
  · exact .inl (.inr ⟨o, e _ _ h⟩)
  · exact .inr h
section
variable {X : Cx} {e : Expr} {K : PySem.W.Frag}
/-- [e for x in t], t a tuple: the values are ws, and making them changes nothing that stood -/
def tCW (K : PySem.W.Frag) (tl te : TE) (j : Nat) : TE := fun σ H Q => tl σ H fun x H1 => ∃ (l : Addr) (xs ws : List V), x = .ref l ∧ SqT K H1 l xs ∧ xs.length ≤ 1000 ∧ j < σ.length ∧ ws.length = xs.length ∧
  (∀ (i : Nat) (x v : V) (τ : L2.St) (H2 : Hp) (Q' : VK), xs[i]? = some x → ws[i]? = some v → Same H1 H2 → τ[j]? = some (some x) → (∀ H3, Same H2 H3 → Q' v H3) → te τ H2 Q') ∧ ∀ D H', Same H1 H' → H1 D = none → H' D = some (.lst ws) → Q (.ref D) H'
theorem cw_of {tl te : TE} {j : Nat} (hm : ∀ σ H (Q Q' : VK), (∀ v H, Q v H → Q' v H) → tl σ H Q → tl σ H Q') (σ : L2.St) (H : Hp) (Q : VK) (h : tCW K tl te j σ H Q) : tLc (iTup K tl) (gName j) tYes te [j] σ H Q := by
  refine hm σ H _ _ (fun x H1 hx => ?_) h
  obtain ⟨l, xs, ws, ex, hl, hz, hj, lw, hv, q⟩ := hx
  refine ⟨l, ex, ⟨xs, hl⟩, fun D hD => ?_⟩
  refine lc_tup (xs := xs) (fun i H' => Same H1 H' ∧ H' D = some (.lst (ws.take i))) ⟨same_new hD, upd_same⟩ (fun _ _ _ h => same_tup h.1 hl) (fun i x H2 hx hh => ?_) (fun H2 hh => ?_)
  · obtain ⟨s2, e2⟩ := hh
    have hi : i < xs.length := (List.getElem?_eq_some_iff.mp hx).1
    have hwi : ws[i]? = some (ws[i]'(by omega)) := List.getElem?_eq_getElem (by omega)
    refine ⟨by simp [wipe], hv i x _ _ H2 _ hx hwi s2 (by simp [wipe, hj]) fun H3 s3 => ⟨_, s3 _ _ e2, ?_, fun b o eb => ?_, ?_⟩⟩
    · rw [List.length_take]
      exact small1000 (by omega)
    · rw [upd_ne (ne_of_none eb hD)]
      exact s3 _ _ (s2 _ _ eb)
    · rw [upd_same, List.take_add_one, hwi]
      rfl
  · obtain ⟨s2, e2⟩ := hh
    refine q D H2 s2 hD ?_
    rw [e2, ← lw, List.take_length]
theorem pe_cw {tl te : TE} {j : Nat} (h : PE X e (tLc (iTup K tl) (gName j) tYes te [j])) (hm : ∀ σ H (Q Q' : VK), (∀ v H, Q v H → Q' v H) → tl σ H Q → tl σ H Q') : PE X e (tCW K tl te j) := pe_imp h fun σ H Q q => cw_of hm σ H Q q
/-- the same over a list -/
def tCWl (K : PySem.W.Frag) (tl te : TE) (j : Nat) : TE := fun σ H Q => tl σ H fun x H1 => ∃ (l : Addr) (xs ws : List V), x = .ref l ∧ SqL K H1 l xs ∧ xs.length ≤ 1000 ∧ j < σ.length ∧ ws.length = xs.length ∧
  (∀ (i : Nat) (x v : V) (τ : L2.St) (H2 : Hp) (Q' : VK), xs[i]? = some x → ws[i]? = some v → Same H1 H2 → τ[j]? = some (some x) → (∀ H3, Same H2 H3 → Q' v H3) → te τ H2 Q') ∧ ∀ D H', Same H1 H' → H1 D = none → H' D = some (.lst ws) → Q (.ref D) H'
theorem cwl_of {tl te : TE} {j : Nat} (hm : ∀ σ H (Q Q' : VK), (∀ v H, Q v H → Q' v H) → tl σ H Q → tl σ H Q') (σ : L2.St) (H : Hp) (Q : VK) (h : tCWl K tl te j σ H Q) : tLc (iList K tl) (gName j) tYes te [j] σ H Q := by
  refine hm σ H _ _ (fun x H1 hx => ?_) h
  obtain ⟨l, xs, ws, ex, hl, hz, hj, lw, hv, q⟩ := hx
  refine ⟨l, ex, ⟨xs, hl⟩, fun D hD => ?_⟩
  refine lc_list (xs := xs) (fun i H' => Same H1 H' ∧ H' D = some (.lst (ws.take i))) ⟨same_new hD, upd_same⟩ (fun _ _ _ h => h.1.seq hl) (fun i x H2 hx hh => ?_) (fun H2 hh => ?_)
  · obtain ⟨s2, e2⟩ := hh
    have hi : i < xs.length := (List.getElem?_eq_some_iff.mp hx).1
    have hwi : ws[i]? = some (ws[i]'(by omega)) := List.getElem?_eq_getElem (by omega)
    refine ⟨by simp [wipe], hv i x _ _ H2 _ hx hwi s2 (by simp [wipe, hj]) fun H3 s3 => ⟨_, s3 _ _ e2, ?_, fun b o eb => ?_, ?_⟩⟩
    · rw [List.length_take]
      exact small1000 (by omega)
    · rw [upd_ne (ne_of_none eb hD)]
      exact s3 _ _ (s2 _ _ eb)
    · rw [upd_same, List.take_add_one, hwi]
      rfl
  · obtain ⟨s2, e2⟩ := hh
    refine q D H2 s2 hD ?_
    rw [e2, ← lw, List.take_length]
theorem pe_cwl {tl te : TE} {j : Nat} (h : PE X e (tLc (iList K tl) (gName j) tYes te [j])) (hm : ∀ σ H (Q Q' : VK), (∀ v H, Q v H → Q' v H) → tl σ H Q → tl σ H Q') : PE X e (tCWl K tl te j) := pe_imp h fun σ H Q q => cwl_of hm σ H Q q
theorem mono_var {i : Nat} : ∀ (σ : L2.St) (H : Hp) (Q Q' : VK), (∀ v H, Q v H → Q' v H) → tVar i σ H Q → tVar i σ H Q' := fun σ H Q Q' k h => by
  obtain ⟨v, h1, h2⟩ := h
  exact ⟨v, h1, k _ _ h2⟩
end
def rLenQ (K : PySem.W.Frag) : List V → Hp → VK → Prop := fun xs H Q => ∃ p ys, xs = [.ref p] ∧ (SqL K H p ys ∨ SqT K H p ys) ∧ Q (.int ys.length) H
def rListS (K : PySem.W.Frag) : List V → Hp → VK → Prop := fun xs H Q => ∃ p ys, xs = [.ref p] ∧ (SqL K H p ys ∨ SqT K H p ys) ∧ ∀ l H', Same H H' → H l = none → H' l = some (.lst ys) → Q (.ref l) H'
def rSortT (K : PySem.W.Frag) : List V → Hp → VK → Prop := fun vs H Q => ∃ (a : Addr) (xs : List Str), vs = [V.ref a] ∧ SqT K H a (xs.map V.str) ∧ xs.length < 64 ∧ ∀ (ys : List Str) (p : Addr) (H' : Hp), ys.Perm xs → sortedS ys = true → Same H H' → H p = none → H' p = some (.lst (ys.map V.str)) → Q (.ref p) H'
def rSortL (K : PySem.W.Frag) : List V → Hp → VK → Prop := fun vs H Q => ∃ (a : Addr) (xs : List Str), vs = [V.ref a] ∧ SqL K H a (xs.map V.str) ∧ xs.length < 64 ∧ ∀ (ys : List Str) (p : Addr) (H' : Hp), ys.Perm xs → sortedS ys = true → Same H H' → H p = none → H' p = some (.lst (ys.map V.str)) → Q (.ref p) H'
theorem eqv_txs : ∀ (a b : List Str), PyData.eqv (.list (a.map PyData.str)) (.list (b.map PyData.str)) = decide (a = b) := by
  have key : ∀ a b : List Str, PyData.eqvAll (a.map PyData.str) (b.map PyData.str) = decide (a = b) := by
    intro a
    induction a with
    | nil =>
      intro b
      cases b with
      | nil => simp [PyData.eqvAll]
      | cons y q => simp [PyData.eqvAll]
    | cons x r ih =>
      intro b
      cases b with
      | nil => simp [PyData.eqvAll]
      | cons y q =>
        simp only [List.map_cons, PyData.eqvAll, ih]
        by_cases e : x = y
        · subst e; simp [PyData.eqv]
        · simp [PyData.eqv, e]
  intro a b
  simp only [PyData.eqv, key]
theorem shaped_txs (a : List Str) (ha : ∀ z ∈ a, PyData.strOk z = true) : SeqAt.shaped (.list (a.map PyData.str)) = true := by
  have k1 : ∀ a : List Str, (∀ z ∈ a, PyData.strOk z = true) → PyData.canLayAll0 (a.map PyData.str) = true := by
    intro a
    induction a with
    | nil => simp [PyData.canLayAll0]
    | cons x r ih => intro h; simp [PyData.canLayAll0, PyData.canLay0, ih (fun z hz => h z (List.mem_cons_of_mem _ hz)), h x (List.mem_cons_self ..)]
  have k2 : ∀ a : List Str, PyData.depthAll (a.map PyData.str) = 0 := by
    intro a
    induction a with
    | nil => simp [PyData.depthAll]
    | cons x r ih => simp [PyData.depthAll, PyData.depth, ih]
  simp [SeqAt.shaped, PyData.canLay0, PyData.depth, k1 a ha, k2]
theorem dp_txs {K : PySem.W.Frag} {H : Hp} : ∀ (l : List Str), DpAll K H (l.map V.str) (l.map PyData.str)
  | [] => .nil
  | x :: r => .cons (.str x) (dp_txs r)
theorem dp_list {K : PySem.W.Frag} {H : Hp} {a : Addr} {l : List Str} (h : SqL K H a (l.map V.str)) : Dp K H (.ref a) (.list (l.map PyData.str)) := .lst h (dp_txs l)
end FS

set_option Elab.async false
set_option linter.all false
set_option maxRecDepth 100000
set_option maxHeartbeats 4000000
/-! list(reversed(a list)): a new list of what the turned one gives. -/
namespace FS
open PySem PySem.Spec PyProof.Rows L2 RT
/-- the i-th from the end -/
def TurnedBy (us : Array Value) (i : Nat) (v : Value) : Prop := us[us.size - 1 - i]? = some v
theorem list_of_turned {prog : Program} {w : World} {A : Around} {E : Value → Shared → Prop} {s : Shared} {t l : Addr} {us : Array Value} {Q : Value → Shared → Prop} (still : A.handled = none) (tIs : s.heap.IsRevIter t l ((us.size : Int) - 1)) (lIs : s.heap.IsList l us)
    (apart : l ≠ t) (fits : us.size ≤ sizeLine) (next : ∀ (g : Heap) (k : Nat) (vs : Array Value) (c : Nat), (∀ b o, b ≠ t → s.heap.get? b = some o → g.get? b = some o) → g.get? s.heap.objs.size = some ⟨.type "list", none, .seq vs c, #[]⟩ →
      ItemsOf (TurnedBy us) vs us.size → Q (.ref s.heap.objs.size) { s with heap := g, toks := k }) : wpAny (model prog w) A (call (.type "list") [.ref t]) Q E s := by
  have older : ∀ {b : Addr} {o : Obj}, s.heap.get? b = some o → b ≠ s.heap.objs.size := fun e => Nat.ne_of_lt (Heap.lt_size e)
  have t0 : t ≠ s.heap.objs.size := let ⟨_, e, _⟩ := tIs; older e
  have l0 : l ≠ s.heap.objs.size := let ⟨_, e, _⟩ := lIs; older e
  refine callType_codes (Q₁ := fun v r => v = .ref s.heap.objs.size ∧ r = { s with heap := s.heap.push ⟨.type "list", none, .seq #[] 0, #[]⟩ }) PySem.F.called_list (PySem.F.typeCall_list_1 _) PySem.F.entry_list_init (code_list_new _ ⟨rfl, rfl⟩) ?_
  rintro _ _ ⟨rfl, rfl⟩
  have laid : (s.heap.push ⟨.type "list", none, .seq #[] 0, #[]⟩).get? s.heap.objs.size = some ⟨.type "list", none, .seq #[] 0, #[]⟩ := Heap.get?_push_size _ rfl
  refine ⟨⟨_, laid, rfl⟩, PySem.F.args_list_init_2 _ _, ?_⟩
  -- the list is emptied, then it takes what the turned one gives
  show wpAny _ _ (Builtin.List.listItems (.ref s.heap.objs.size) >>= fun o => updateSeq s.heap.objs.size (fun _ => #[]) >>= fun _ => letGo o.toList.reverse >>= fun _ => Builtin.List.listExtendWith (.ref s.heap.objs.size) (.ref t) .none) _ _ _
  unfold Builtin.List.listItems
  refine wpAny_bind (wpAny_bind (wpAny_seqItems laid rfl (wpAny_pure ?_)))
  refine wpAny_bind (wpAny_updateSeq laid rfl ?_)
  refine wpAny_bind (wpAny_letGo ?_)
  have kept : ∀ b o, s.heap.get? b = some o → ((s.heap.push ⟨.type "list", none, .seq #[] 0, #[]⟩).update s.heap.objs.size (Obj.mapSeq fun _ => #[])).get? b = some o :=
    fun b o e => (Heap.get?_update_other _ _ (Ne.symm (older e))).trans (Heap.get?_push_of_some _ e)
  have empty := Heap.get?_update_self (Obj.mapSeq fun _ => (#[] : Array Value)) laid rfl
  generalize (s.heap.push ⟨.type "list", none, .seq #[] 0, #[]⟩).update s.heap.objs.size (Obj.mapSeq fun _ => #[]) = h at kept empty ⊢
  have tAt : h.IsRevIter t l ((us.size : Int) - 1) := tIs.at (kept t)
  have lAt : h.IsList l us := let ⟨o, e, r⟩ := lIs; ⟨o, kept l o e, r⟩
  have kind : ({ s with heap := h } : Shared).TypeIs (.ref t) "list_reverseiterator" := Heap.IsRevIter.typeIs (s := { s with heap := h }) tAt
  have other : Builtin.List.listSameRef (.ref s.heap.objs.size) (.ref t) = false := by
    simp [Builtin.List.listSameRef, Ne.symm t0]
  unfold Builtin.List.listExtendWith
  refine wpAny_bind (wpAny_typeOf kind ?_)
  rw [if_neg (by rw [other]; decide)]
  refine wpAny_bind (wpAny_pyIter_revIter (s := { s with heap := h }) tAt (wpAny_bind (wpAny_holding ?_)))
  unfold Builtin.List.listLengthHint
  refine wpAny_bind (wpAny_specialOf kind nolen_lri (wpAny_bind (m := specialOf (Value.ref t) (Str.ofString "__length_hint__")) (wpAny_specialOf kind hint_lri ?_)))
  have cutId : splitId "list_reverseiterator.__length_hint__" = some ("list_reverseiterator", "__length_hint__") := by decide +kernel
  generalize back : ("list_reverseiterator.__length_hint__" : String) = id0 at cutId ⊢
  wp_delta
  rw [cutId]
  subst back
  refine wpAny_bind (wpAny_isInstance (b := true) kind (by rw [isSubtype_type]; kernel_rfl) ?_)
  refine wpAny_pure ?_
  rw [if_neg (by decide)]
  have free : s.heap.objs.size ∉ [t, l] := by simp [Ne.symm t0, Ne.symm l0]
  refine wpAny_pure ⟨plainId_quiet F.plain_extend_loop _, codeAny_extend_loopS (Walks.listRev (A := A.in1.in1) still t l apart us).toS fits _ free _ us.size 0 _ _ _ rfl (Nat.zero_le _) ⟨Nat.zero_le _, by rw [show ((us.size : Nat) : Int) - 1 - ((0 : Nat) : Int) = (us.size : Int) - 1 by omega]; exact tAt, lAt⟩ empty (ItemsOf.nil _) ?_⟩
  intro r vs c moved there items
  rw [Moved.eq_with moved]
  exact ⟨rfl, next r.heap r.toks vs c (fun b o nb e => moved.heap b o (by simp [older e, nb]) (kept b o e)) there items⟩
section
variable {X : Cx}
/-- list(reversed(x)), x a list: a new list -/
def tLstRev (K : PySem.W.Frag) (te : TE) : TE := fun σ H Q => te σ H fun v H1 => ∃ (a : Addr) (xs : List V), v = .ref a ∧ SqL K H1 a xs ∧ ∀ q H2, Same H1 H2 → H1 q = none → H2 q = some (.lst xs.reverse) → Q (.ref q) H2
theorem pe_lstRevK {K : PySem.W.Frag} {e : Expr} {te : TE} {p p2 pos pos2 : Pos} (hc : X.calm = true) (hg : Gl X "list") (hm : X.mg "list" = none) (hg2 : Gl X "reversed") (hm2 : X.mg "reversed" = none) (he : PE X e te) (hK : X.K = K := by rfl)
    (one : starEach [e] X.env = (false, eval e X.env) :: starEach [] X.env := by rfl)
    (two : starEach [.Call (.Name "reversed" p2) [e] [] pos2] X.env = (false, eval (.Call (.Name "reversed" p2) [e] [] pos2) X.env) :: starEach [] X.env := by rfl) :
    PE X (.Call (.Name "list" p) [.Call (.Name "reversed" p2) [e] [] pos2] [] pos) (tLstRev K te) := by
  subst hK
  refine ⟨fun pins s σ H Q I h => Call_ (ld_blt I hg hm (by decide +kernel : bootBuiltins "list" = some (.type "list")) (PyProof.Rows.callWith_type1 (args_cons (Call_ (ld_blt I hg2 hm2 PyProof.Rows.boot_reversed (PyProof.Rows.callWith_type1 (args_cons (thn (he.run pins s σ H _ I h) ?_) one) one rfl))) two) two rfl))⟩
  rintro u z ⟨v, H1, J, hu, a, xs, rfl, hx, q⟩
  obtain rfl : u = Value.ref a := hu
  obtain ⟨its, vals, pl, small⟩ := J.list hx
  refine args_nil (call_reversed_list pl.isList (args_nil ?_))
  generalize hn : its.toArray.size = n
  have len : n = xs.length := by rw [← hn, List.size_toArray, vals.length]
  have push : ∀ b o, z.heap.get? b = some o → (z.heap.push (revObj a ((n : Int) - 1))).get? b = some o := fun _ _ => Heap.get?_push_of_some _
  have J2 : Inv X pins σ H1 { z with heap := z.heap.push (revObj a ((n : Int) - 1)) } := J.kept (t' := z.toks) push
  obtain ⟨w0, w1, _, w3, w4, w5⟩ := J.fpOk (H' := H1) (b := z.heap.objs.size) (Nat.le_refl _) (J.hok.fresh (Nat.le_refl _))
  have src := pl.isList
  have apart : a ≠ z.heap.objs.size := let ⟨_, ho, _⟩ := src; Nat.ne_of_lt (Heap.lt_size ho)
  refine list_of_turned (s := { z with heap := z.heap.push (revObj a ((n : Int) - 1)) }) (J.ok.hd hc) (by rw [hn]; exact ⟨_, Heap.get?_push_size _ rfl, rfl, rfl⟩) (src.push _) apart (by rw [hn, len]; exact small) fun g k vs c keep there items => ?_
  -- the new list's address stands free while the turned one goes
  generalize hd : (z.heap.push (revObj a ((n : Int) - 1))).objs.size = d at there
  have dn : H1 d = none := by rw [← hd]; exact J2.hok.fresh (Nat.le_refl _)
  obtain ⟨G, g1, g2⟩ := restrict g fun b => decide (b ≠ d)
  have J3 : Inv X pins σ H1 { z with heap := G, toks := k } := J2.turned (t' := k) (fun b o nb e => (g1 b (decide_eq_true (by rw [← hd]; exact Nat.ne_of_lt (Heap.lt_size e)))).trans (keep b o nb e)) w0 w1 w3 w4 w5
  have back : ∀ b o, G.get? b = some o → g.get? b = some o := fun b o e => by
    by_cases nb : b = d
    · rw [g2 b (decide_eq_false fun y => y nb)] at e
      cases e
    · exact (g1 b (decide_eq_true nb)).symm.trans e
  refine ⟨.ref d, upd H1 d (.lst xs.reverse), J3.laidN (t' := k) back (g2 _ (decide_eq_false fun y => y rfl)) dn ?_, rfl, q _ _ (same_new dn) dn upd_same⟩
  exact ⟨by rw [List.length_reverse]; exact small, vs.toList, c, vals_rev vals items, by rw [Array.toArray_toList]; exact there⟩
end
end FS

set_option Elab.async false
set_option linter.all false
set_option maxRecDepth 100000
set_option maxHeartbeats 4000000
/-! Comprehensions whose values are new lists or tuples. -/
namespace FS
open PySem PySem.Spec PyProof.Rows L2
/-- what an iterator gives, as long as what stood stands -/
def Runs (J : It) (xs : List V) (H1 : Hp) : Prop := (∀ i H, i < xs.length → Same H1 H → J.go i H) ∧ (∀ H, Same H1 H → J.stop xs.length H) ∧ ∀ i x H H', Same H1 H → J.yld i H x H' → H' = H ∧ xs[i]? = some x
theorem runs_list {K : PySem.W.Frag} {a : Addr} {xs : List V} {H1 : Hp} (h : SqL K H1 a xs) : Runs (Itl K a) xs H1 :=
  ⟨fun i H hi s => ⟨xs, _, s.seq h, List.getElem?_eq_getElem hi⟩, fun H s => ⟨xs, s.seq h, Nat.le_refl _⟩, fun i x H H' s y => ⟨y.1, y.2 xs (s.seq h)⟩⟩
theorem runs_tup {K : PySem.W.Frag} {a : Addr} {xs : List V} {H1 : Hp} (h : SqT K H1 a xs) : Runs (Itt K a) xs H1 :=
  ⟨fun i H hi s => ⟨xs, _, same_tup s h, List.getElem?_eq_getElem hi⟩, fun H s => ⟨xs, same_tup s h, Nat.le_refl _⟩, fun i x H H' s y => ⟨y.1, y.2 xs (same_tup s h)⟩⟩
theorem runs_vals {d : Addr} {o : Obj} {kvs : List (Key × V)} {H1 : Hp} (h : H1 d = some (.frz o (.dK kvs))) : Runs (Itd d o kvs) (kvs.map (·.2)) H1 :=
  ⟨fun i H hi s => ⟨s _ _ h, by rw [List.length_map] at hi; exact hi⟩, fun H s => ⟨s _ _ h, by rw [List.length_map]; exact Nat.le_refl _⟩, fun i x H H' s y => ⟨y.1, by
    obtain ⟨k, hk⟩ := y.2
    rw [List.getElem?_map, hk]
    rfl⟩⟩
/-- y is a cell with o -/
def Made {α : Type} (C : α → HO) (H : Hp) (o : α) (y : V) : Prop := ∃ r, y = .ref r ∧ H r = some (C o)
theorem Made.mono {α : Type} {C : α → HO} {H H' : Hp} {o : α} {y : V} (h : Made C H o y) (s : Same H H') : Made C H' o y := by
  obtain ⟨r, e, h⟩ := h
  exact ⟨r, e, s _ _ h⟩
theorem mades {α : Type} {C : α → HO} {H H' : Hp} {os : List α} {ys : List V} (h : Paired (Made C H) os ys) (s : Same H H') : Paired (Made C H') os ys := Paired.mono (fun _ _ m => m.mono s) h
theorem made_at {α : Type} {C : α → HO} {H : Hp} : ∀ {os : List α} {ys : List V}, Paired (Made C H) os ys → ∀ {i : Nat} {y : V}, ys[i]? = some y → ∃ o, os[i]? = some o ∧ Made C H o y
  | _, _, .nil, i, y, h => by cases h
  | _, _, .cons a t, 0, y, h => ⟨_, rfl, by cases h; exact a⟩
  | _, _, .cons a t, i + 1, y, h => made_at t h
section
variable {X : Cx} {e : Expr} {K : PySem.W.Frag}
theorem cn_at {α : Type} {C : α → HO} {J : It} {te : TE} {j : Nat} {σ : L2.St} {H1 : Hp} {Qd : Hp → Prop} {D : Addr} (hD : H1 D = none) (xs : List V) (os : List α) (hr : Runs J xs H1) (hz : xs.length ≤ 1000) (hj : j < σ.length) (lo : os.length = xs.length)
    (hv : ∀ (i : Nat) (x : V) (o : α) (τ : L2.St) (H2 : Hp) (Q' : VK), xs[i]? = some x → os[i]? = some o → Same H1 H2 → τ[j]? = some (some x) → (∀ H3 r, Same H2 H3 → H2 r = none → H3 r = some (C o) → Q' (.ref r) H3) → te τ H2 Q')
    (q : ∀ H' ys, Same H1 H' → H' D = some (.lst ys) → Paired (Made C H') os ys → Qd H') :
    ∃ W : Nat → Nat → Hp → Prop, (∃ m, W 0 m (upd H1 D (.lst []))) ∧ ∀ i m H, W i m H →
      (J.stop i H ∧ Qd H) ∨ (J.go i H ∧ ∃ Nx : Hp → Prop, (∀ H', Nx H' → ∃ m', m' < m ∧ W (i + 1) m' H') ∧ ∀ x H', J.yld i H x H' → gName j x (wipe σ [j]) H' fun σ2 H2 => wipe σ2 [j] = wipe σ [j] ∧ tYes σ2 H2 fun b H3 =>
        if b = true then te σ2 H3 fun y H4 => ∃ acc, H4 D = some (.lst acc) ∧ acc.length < sizeLine ∧ Nx (upd H4 D (.lst (acc ++ [y]))) else Nx H3) := by
  refine ⟨fun i m H => m = xs.length - i ∧ i ≤ xs.length ∧ Same H1 H ∧ ∃ ys, H D = some (.lst ys) ∧ Paired (fun o y => ∃ r, y = .ref r ∧ r ≠ D ∧ H r = some (C o)) (os.take i) ys,
    ⟨xs.length, by simp, Nat.zero_le _, same_new hD, [], upd_same, .nil⟩, ?_⟩
  rintro i m H ⟨rfl, hi, s, ys, eD, py⟩
  by_cases hlt : i < xs.length
  · have ho : os[i]? = some (os[i]'(by omega)) := List.getElem?_eq_getElem (by omega)
    refine .inr ⟨hr.1 i H hlt s, fun H' => i + 1 ≤ xs.length ∧ Same H1 H' ∧ ∃ ys, H' D = some (.lst ys) ∧ Paired (fun o y => ∃ r, y = .ref r ∧ r ≠ D ∧ H' r = some (C o)) (os.take (i + 1)) ys, fun H' p' => ⟨xs.length - (i + 1), by omega, rfl, p'.1, p'.2⟩, fun x H' y => ?_⟩
    obtain ⟨rfl, hx⟩ := hr.2.2 i x H H' s y
    refine ⟨by simp [wipe], hv i x _ _ _ _ hx ho s (by simp [wipe, hj]) fun H3 r s3 nr er => ⟨ys, s3 _ _ eD, ?_, hlt, ?_, ys ++ [.ref r], upd_same, ?_⟩⟩
    · rw [← py.length, List.length_take]
      exact small1000 (by omega)
    · intro b o eb
      rw [upd_ne (ne_of_none eb hD)]
      exact s3 _ _ (s _ _ eb)
    · have nrD : r ≠ D := fun z => by rw [z, eD] at nr; cases nr
      rw [List.take_add_one, ho]
      refine Paired.snoc (Paired.mono (fun o y m => ?_) py) ⟨r, rfl, nrD, by rw [upd_ne nrD]; exact er⟩
      obtain ⟨r', e', n', h'⟩ := m
      exact ⟨r', e', n', by rw [upd_ne n']; exact s3 _ _ h'⟩
  · have e : i = xs.length := by omega
    subst e
    refine .inl ⟨hr.2.1 H s, q H ys s eD ?_⟩
    rw [← lo, List.take_length] at py
    exact Paired.mono (fun o y ⟨r, e', _, h'⟩ => ⟨r, e', h'⟩) py
theorem cn_core {α : Type} {C : α → HO} {J : It} {te : TE} {j : Nat} {σ : L2.St} {H1 : Hp} {Q : VK} (xs : List V) (os : List α) (hr : Runs J xs H1) (hz : xs.length ≤ 1000) (hj : j < σ.length) (lo : os.length = xs.length)
    (hv : ∀ (i : Nat) (x : V) (o : α) (τ : L2.St) (H2 : Hp) (Q' : VK), xs[i]? = some x → os[i]? = some o → Same H1 H2 → τ[j]? = some (some x) → (∀ H3 r, Same H2 H3 → H2 r = none → H3 r = some (C o) → Q' (.ref r) H3) → te τ H2 Q')
    (q : ∀ D H' ys, Same H1 H' → H1 D = none → H' D = some (.lst ys) → Paired (Made C H') os ys → Q (.ref D) H') :
    ∀ D, H1 D = none → ∃ W : Nat → Nat → Hp → Prop, (∃ m, W 0 m (upd H1 D (.lst []))) ∧ ∀ i m H, W i m H →
      (J.stop i H ∧ Q (.ref D) H) ∨ (J.go i H ∧ ∃ Nx : Hp → Prop, (∀ H', Nx H' → ∃ m', m' < m ∧ W (i + 1) m' H') ∧ ∀ x H', J.yld i H x H' → gName j x (wipe σ [j]) H' fun σ2 H2 => wipe σ2 [j] = wipe σ [j] ∧ tYes σ2 H2 fun b H3 =>
        if b = true then te σ2 H3 fun y H4 => ∃ acc, H4 D = some (.lst acc) ∧ acc.length < sizeLine ∧ Nx (upd H4 D (.lst (acc ++ [y]))) else Nx H3) := fun D hD => cn_at hD xs os hr hz hj lo hv fun H' ys s e p => q D H' ys s hD e p
end
end FS

set_option Elab.async false
set_option linter.all false
set_option maxRecDepth 100000
set_option maxHeartbeats 4000000
/-! Slices, and tuples put together. -/
namespace FS
open PySem PySem.Spec PyProof.Rows L2
theorem cut_to (xs : List V) (k : Nat) : cutV xs none (some (k : Int)) = xs.take k := by
  unfold cutV
  rw [HT.sIx_none, HT.sIx_nat, List.drop_zero, Nat.sub_zero]
  by_cases h : k ≤ xs.length
  · rw [Nat.min_eq_left h]
  · rw [Nat.min_eq_right (by omega), List.take_length, List.take_of_length_le (by omega)]
theorem cut_from (xs : List V) (k : Nat) : cutV xs (some (k : Int)) none = xs.drop k := by
  unfold cutV
  rw [HT.sIx_none, HT.sIx_nat]
  by_cases h : k ≤ xs.length
  · rw [Nat.min_eq_left h]
    exact List.take_of_length_le (by rw [List.length_drop]; exact Nat.le_refl _)
  · rw [Nat.min_eq_right (by omega), List.drop_length, List.drop_of_length_le (by omega)]
    rw [List.take_nil]
theorem pr_take {α β : Type} {F : α → β → Prop} : ∀ {as : List α} {bs : List β} (k : Nat), Paired F as bs → Paired F (as.take k) (bs.take k)
  | _, _, 0, _ => by rw [List.take_zero, List.take_zero]; exact .nil
  | _, _, k + 1, .nil => .nil
  | _, _, k + 1, .cons a t => .cons a (pr_take k t)
theorem pr_drop {α β : Type} {F : α → β → Prop} : ∀ {as : List α} {bs : List β} (k : Nat), Paired F as bs → Paired F (as.drop k) (bs.drop k)
  | _, _, 0, h => h
  | _, _, k + 1, .nil => .nil
  | _, _, k + 1, .cons a t => pr_drop k t
theorem pr_app {α β : Type} {F : α → β → Prop} : ∀ {as : List α} {bs : List β} {cs : List α} {ds : List β}, Paired F as bs → Paired F cs ds → Paired F (as ++ cs) (bs ++ ds)
  | _, _, _, _, .nil, h => h
  | _, _, _, _, .cons a t, h => .cons a (pr_app t h)
section
variable {X : Cx}
def rCatB : R2 := fun x y H Q => ∃ a b xs ys, x = .ref a ∧ y = .ref b ∧ H a = some (.tup xs) ∧ H b = some (.tup ys) ∧ xs.length + ys.length ≤ 1000 ∧ ∀ p H', Same H H' → H' p = some (.tup (xs ++ ys)) → Q (.ref p) H'
theorem op_catB : OpR X (binaryOp .Add) rCatB := fun pins s σ H x y v u Q I rx ry ⟨a, b, xs, ys, e1, e2, h1, h2, hz, q⟩ =>
  op_catA pins s σ H x y v u Q I rx ry ⟨a, b, xs, ys, e1, e2, .inl (.inl h1), .inl (.inl h2), Nat.le_of_lt (small1000 hz), fun e => q b H (Same.refl _) (by rw [e]; exact h2), fun _ e => q a H (Same.refl _) (by rw [e, List.append_nil]; exact h1),
    fun _ _ p np => q p _ (same_new np) upd_same⟩
def rSlB : V → Option Int → Option Int → Hp → VK → Prop := fun x lo hi H Q => ∃ a xs, x = .ref a ∧ H a = some (.tup xs) ∧ ∀ p H', Same H H' → H' p = some (.tup (cutV xs lo hi)) → Q (.ref p) H'
theorem sl_tupB : SlR X rSlB := fun pins s σ H x v vl vu lo hi sl Q I rx hs pl pu ⟨a, xs, e, hx, q⟩ =>
  sl_tupA pins s σ H x v vl vu lo hi sl Q I rx hs pl pu ⟨a, xs, e, .inl (.inl hx), fun ⟨h1, h2⟩ => q a H (Same.refl _) (by
    unfold cutV
    rw [h1, h2, List.drop_zero, Nat.sub_zero, List.take_length]
    exact hx), fun _ p np => q p _ (same_new np) upd_same⟩
end
end FS

set_option Elab.async false
set_option linter.all false
set_option maxRecDepth 100000
set_option maxHeartbeats 4000000
/-! with_name -/
namespace K2
open PySem PySem.Spec PyProof.Rows L2 FS
theorem pa_starK {X : Cx} {K : PySem.W.Frag} {e : Expr} {es : List Expr} {p : Pos} {te : TE} {t : TA} (he : PE X e te) (hr : PA X es t) (hK : X.K = K := by rfl) (hs : starEach (.Starred e p :: es) X.env = (true, eval e X.env) :: starEach es X.env := by rfl) : PA X (.Starred e p :: es) (StX.tStar K te t) := by
  subst hK
  exact StX.pa_star he hr hs
theorem walk_enumT {K : PySem.W.Frag} {a : Addr} {xs : List V} : Walk (Itn K a) xs.length (fun H => SqT K H a xs) (YPair (fun i => some (.int (i : Nat))) (fun i => xs[i]?)) :=
  ⟨fun i H hi q => ⟨xs, xs[i]'hi, q, List.getElem?_eq_getElem hi⟩, fun H q => ⟨xs, q, rfl⟩, fun i H v H' _ q ⟨T, x, e, n, eH, f⟩ => ⟨T, _, x, e, n, eH, rfl, f _ q⟩⟩
def cT (g : List Str) : HO := .tup (g.map V.str)
/-- a partition: a tuple of tuples of texts -/
def PtAt (H : Hp) (p : List (List Str)) (v : V) : Prop := ∃ r ys, v = .ref r ∧ H r = some (.tup ys) ∧ Paired (Made cT H) p ys
theorem PtAt.mono {H H' : Hp} {p : List (List Str)} {v : V} (h : PtAt H p v) (s : Same H H') : PtAt H' p v := by
  obtain ⟨r, ys, e, h, m⟩ := h
  exact ⟨r, ys, e, s _ _ h, mades m s⟩
theorem made_upd {H : Hp} {D : Addr} {xs zs : List V} (hD : H D = some (.lst xs)) {g : List Str} {y : V} (m : Made cT H g y) : Made cT (upd H D (.lst zs)) g y := by
  obtain ⟨r, e, h⟩ := m
  refine ⟨r, e, ?_⟩
  rw [upd_ne (fun z => by rw [z, hD] at h; cases h)]
  exact h
theorem PtAt.upd {H : Hp} {D : Addr} {xs zs : List V} (hD : H D = some (.lst xs)) {p : List (List Str)} {v : V} (h : PtAt H p v) : PtAt (upd H D (.lst zs)) p v := by
  obtain ⟨r, ys, e, h, m⟩ := h
  refine ⟨r, ys, e, ?_, Paired.mono (fun _ _ m => made_upd hD m) m⟩
  rw [upd_ne (fun z => by rw [z, hD] at h; cases h)]
  exact h
theorem pts_mono {H H' : Hp} (s : Same H H') {ps : List (List (List Str))} {vs : List V} (h : Paired (PtAt H) ps vs) : Paired (PtAt H') ps vs := Paired.mono (fun _ _ m => m.mono s) h
theorem dp_mades {K : PySem.W.Frag} {H : Hp} : ∀ {gs : List (List Str)} {ys : List V}, Paired (Made cT H) gs ys → DpAll K H ys (gs.map fun g => .tuple (g.map PyData.str))
  | _, _, .nil => .nil
  | _, _, .cons ⟨r, e, h⟩ t => by
    subst e
    exact .cons (.tup (.inl (.inl h)) (dp_txs _)) (dp_mades t)
theorem PtAt.dp {K : PySem.W.Frag} {H : Hp} {p : List (List Str)} {v : V} (h : PtAt H p v) : Dp K H v (dPs p) := by
  obtain ⟨r, ys, e, h, m⟩ := h
  subst e
  exact .tup (.inl (.inl h)) (dp_mades m)
theorem reps_pts {K : PySem.W.Frag} {H : Hp} : ∀ {ps : List (List (List Str))} {vs : List V}, Paired (PtAt H) ps vs → Reps K dPs H vs ps
  | _, _, .nil => .nil
  | _, _, .cons a t => .cons a.dp (reps_pts t)
section
variable {P : Program} {w : World} {K : PySem.W.Frag} {mg : Str → Option Value} {base : Heap}
def withA (p : List (List Str)) (x : Str) : List (List (List Str)) := (List.range p.length).map fun i => p.take i ++ [(p.getD i []) ++ [x]] ++ p.drop (i + 1)
theorem with_get {p : List (List Str)} {x : Str} {i : Nat} {g : List Str} (h : p[i]? = some g) : (withA p x)[i]? = some (p.take i ++ [g ++ [x]] ++ p.drop (i + 1)) := by
  have hi : i < p.length := (List.getElem?_eq_some_iff.mp h).1
  unfold withA
  rw [List.getElem?_map, List.getElem?_range hi]
  show some (p.take i ++ [p.getD i [] ++ [x]] ++ p.drop (i + 1)) = _
  rw [List.getD_eq_getElem?_getD, h]
  rfl
def spWith : Sp := fun vs H Q _ => ∃ (a : Addr) (ys : List V) (p : List (List Str)) (x : Str), vs = [.ref a, .str x] ∧ H a = some (.tup ys) ∧ Paired (Made cT H) p ys ∧ p.length ≤ 6 ∧ (∀ g ∈ p, g.length ≤ 6) ∧
  ∀ H' D zs, Same H H' → H D = none → H' D = some (.lst zs) → Paired (PtAt H') (withName p x) zs → Q (.ref D) H'
theorem scW : FnScope ["parts", "name", "grown", "place", "part"] ["parts", "name"] (defScope TopL.sWith) := ⟨rfl, rfl, rfl, by decide +kernel, rfl, by decide +kernel, by decide +kernel⟩
theorem ok_with {f : Addr} {fd : FuncData} (F : Fun K "with_name" "with_name" TopL.sWith f fd) (ze : mg "enumerate" = none) : FnOk P w K mg base CX0 1 f fd ["parts", "name"] spWith := by
  refine F.ok scW (fun vs H Q E h => ?_) (fun cdv A outer s H vs Q E hr h => ?_)
  · obtain ⟨a, ys, p, x, rfl, _⟩ := h
    rfl
  · obtain ⟨a, ys, p, x, rfl, ha, pm, l6, g6, q⟩ := h
    refine ⟨_, pss_cons (ps_setLc (i := 2) (own := [("place", 3), ("part", 4)]) (g := gTup K 2 (gCons (gName 3) (gCons (gName 4) gNil))) (tt := tYes) rfl scW.nd rfl rfl (sw_true rfl rfl rfl (by decide +kernel)) (pi_enumT (by rfl) ze (pa_cons (pv 0) pa_nil)) (blkOk_by (N := ["parts", "name", "grown", "place", "part"]) (sc := defScope TopL.sWith) (by decide +kernel))
          (fun _ _ _ _ _ => pg_tup rfl (pgs_cons (pg_name (i := 3) scW.nd rfl (Or.inl rfl)) (pgs_cons (pg_name (i := 4) scW.nd rfl (Or.inl rfl)) pgs_nil))) (fun _ _ _ _ _ => pts_nil)
          (fun _ _ _ _ _ => pe_op op_catB (pe_op op_catB (pe_slice sl_tupB (pv 0) po_none (po_some (pv 3))) (pe_tupS (pa_cons (pe_tupS (pa_starK (K := K) (pv 4) (pa_cons (pv 1) pa_nil))) pa_nil))) (pe_slice sl_tupB (pv 0) (po_some (pe_op op_add (pv 3) pe_int)) po_none)))
      (pss_one (ps_ret (pe_lstS (pa_starK (K := K) (pv 2) (pa_cons (pe_tupS (pa_starK (K := K) (pv 0) (pa_cons (pe_tupS (pa_cons (pv 1) pa_nil)) pa_nil))) pa_nil))))), ?_⟩
    have lys : ys.length = p.length := pm.length.symm
    refine ⟨.ref a, rfl, a, ys, rfl, .inl (.inl ha), fun D hD => ?_⟩
    refine lc_it walk_enumT (fun i H' => Same H H' ∧ ∃ zs, H' D = some (.lst zs) ∧ Paired (PtAt H') ((withA p x).take i) zs) ⟨same_new hD, [], upd_same, .nil⟩ (fun i H' _ h => same_tup h.1 (.inl (.inl ha))) (fun i v H2 H3 hi ⟨s2, zs, eD, pz⟩ ⟨T1, x1, y, ev, nT, eH, hx, hy⟩ => ?_) (fun H2 ⟨s2, zs, eD, pz⟩ => ?_)
    · subst ev
      subst eH
      cases hx
      have sT := same_new (o := .tup [.int (i : Nat), y]) nT
      obtain ⟨g, hg, rg, rfl, eg⟩ := made_at pm hy
      have s3 := s2.trans sT
      refine ⟨T1, [.int (i : Nat), .ref rg], rfl, .inl (.inl upd_same), rfl, _, [.ref rg], rfl, _, [], rfl, rfl, rfl, ?_⟩
      refine ⟨.ref a, rfl, .int (i : Nat), rfl, (i : Int), rfl, a, ys, rfl, s3 _ _ ha, fun p1 K1 t1 e1 => ?_⟩
      rw [cut_to] at e1
      refine ⟨.ref rg, rfl, rg, g.map V.str, rfl, .inl (.inl (.inl (t1 _ _ (s3 _ _ eg)))), .str x, rfl, ?_⟩
      have lg : g.length ≤ 6 := g6 g (List.mem_of_getElem? hg)
      refine ⟨by rw [List.length_append, List.length_map]; show _ + 1 ≤ 1000; omega, fun pA KA tA nA eA => ⟨by simp, fun pB KB tB nB eB => ⟨p1, pB, _, _, rfl, rfl, tB _ _ (tA _ _ e1), eB, by rw [List.length_take]; show _ + 1 ≤ 1000; omega, fun pC KC tC eC => ?_⟩⟩⟩
      have S4 := s3.trans (t1.trans (tA.trans (tB.trans tC)))
      have i1 : ((i : Int) + 1) = ((i + 1 : Nat) : Int) := by omega
      refine ⟨.ref a, rfl, .int (i : Nat), rfl, _, _, rfl, rfl, _, rfl, a, ys, rfl, S4 _ _ ha, fun pE KE tE eE => ?_⟩
      rw [i1, cut_from] at eE
      refine ⟨pC, pE, _, _, rfl, rfl, tE _ _ eC, eE, by rw [List.length_append, List.length_take, List.length_drop]; show _ + 1 + _ ≤ 1000; omega, fun pF KF tF eF => ?_⟩
      have S5 := S4.trans (tE.trans tF)
      have S2F : Same H2 KF := sT.trans (t1.trans (tA.trans (tB.trans (tC.trans (tE.trans tF)))))
      have eDF := S2F _ _ eD
      refine ⟨zs, eDF, ?_, fun b o eb => ?_, zs ++ [.ref pF], upd_same, ?_⟩
      · rw [← pz.length, List.length_take]
        exact small1000 (by omega)
      · rw [upd_ne (ne_of_none eb hD)]
        exact S5 _ _ eb
      · rw [List.take_add_one, with_get hg]
        refine Paired.mono (fun _ _ m => m.upd eDF) (Paired.snoc (pts_mono S2F pz) ⟨pF, _, rfl, eF, ?_⟩)
        exact pr_app (pr_app (mades (pr_take i pm) S5) (.cons ⟨pA, rfl, (tB.trans (tC.trans (tE.trans tF))) _ _ (by rw [cT, List.map_append]; exact eA)⟩ .nil)) (mades (pr_drop (i + 1) pm) S5)
    · have la : (withA p x).length = ys.length := by unfold withA; rw [List.length_map, List.length_range, lys]
      rw [← la, List.take_length] at pz
      refine ⟨.ref D, rfl, D, zs, rfl, .inr (SqL.of eD), .ref a, rfl, a, ys, rfl, .inl (.inl (.inl (s2 _ _ ha))), .str x, rfl, ⟨by simp, fun pA KA tA nA eA => ⟨by rw [List.length_append]; show _ + 1 ≤ 1000; omega, fun pB KB tB nB eB => ⟨?_, fun L KL tL nL eL => ?_⟩⟩⟩⟩
      · rw [List.length_append, ← pz.length, la]
        show _ + 1 ≤ 1000
        omega
      · have SL := s2.trans (tA.trans (tB.trans tL))
        refine q KL L _ SL ((s2.trans (tA.trans tB)).free nL) eL ?_
        refine pr_app (pts_mono (tA.trans (tB.trans tL)) pz) (.cons ⟨pB, _, rfl, tL _ _ eB, pr_app (mades pm SL) (.cons ⟨pA, rfl, (tB.trans tL) _ _ eA⟩ .nil)⟩ .nil)
end
end K2

set_option Elab.async false
set_option linter.all false
set_option maxRecDepth 100000
set_option maxHeartbeats 4000000
/-! partitions -/
namespace K2
open PySem PySem.Spec PyProof.Rows L2 FS LamX
theorem made_snoc {ns : List Str} {i : Nat} {x : Str} (h : ns[i]? = some x) : made (ns.take (i + 1)) = grow (made (ns.take i)) x := by
  rw [List.take_add_one, h]
  unfold made
  rw [List.foldl_append]
  rfl
theorem pr_get {α β : Type} {F : α → β → Prop} : ∀ {as : List α} {bs : List β}, Paired F as bs → ∀ {i : Nat} {b : β}, bs[i]? = some b → ∃ a, as[i]? = some a ∧ F a b
  | _, _, .nil, i, b, h => by cases h
  | _, _, .cons a t, 0, b, h => ⟨_, rfl, by cases h; exact a⟩
  | _, _, .cons a t, i + 1, b, h => pr_get t h
theorem flat_at {α β : Type} (f : α → List β) : ∀ {L : List α} {i : Nat} {p : α}, L[i]? = some p → (L.map f).flatten = ((L.take i).map f).flatten ++ (f p ++ ((L.drop (i + 1)).map f).flatten)
  | [], _, _, h => by cases h
  | a :: r, 0, _, h => by
    cases h
    rfl
  | a :: r, i + 1, p, h => by
    have ih := flat_at f (L := r) (i := i) (p := p) h
    show f a ++ (r.map f).flatten = (f a ++ ((r.take i).map f).flatten) ++ _
    rw [ih, List.append_assoc]
    rfl
section
variable {P : Program} {w : World} {K : PySem.W.Frag} {mg : Str → Option Value} {base : Heap}
theorem okC {x qual : Str} {st : Stmt} {f : Addr} {oc : Value} {od an : Option Addr} {osl : Array (Option Value)} {kV doc pm cdv ct : Value} {N ps : List Str} {k : Nat} {sp : Sp} (lk : K.lookup f = some ⟨oc, od, .func (PySem.W.fnOf x qual (defArgs st) (defBody st) (defScope st) .none kV doc pm an cdv ct), osl⟩)
    (hcd : PySem.W.codeIn K cdv qual = true) (S : FnScope N ps (defScope st)) (len : ∀ vs H Q E, sp vs H Q E → vs.length = ps.length)
    (hbody : ∀ (A : Around) (outer : List Env) (s : Shared) (H : Hp) (vs : List V) (Q : VK) (E : XK), Room k (A.deeper (envOfC qual (defScope st) s.heap.objs.size f cdv)) → sp vs H Q E →
      ∃ t, PSs (cxOf CX0 P w K mg base N qual (defScope st) f cdv A outer s H E).nox (defBody st) t ∧ t { nx := fun _ H' => Q .non H', rt := Q } (start N vs) H) : FnOk P w K mg base CX0 (k + 1) f (PySem.W.fnOf x qual (defArgs st) (defBody st) (defScope st) .none kV doc pm an cdv ct) ps sp := by
  refine fn_of lk hcd S len fun A outer s H vs Q E hr hsp => ?_
  obtain ⟨t, h, q⟩ := hbody A outer s H vs Q E hr hsp
  exact ⟨t, h.nox, q⟩
def qLam : Str := (("partitions" : Str) ++ ".<locals>.") ++ "<lambda>"
def spParts (K : PySem.W.Frag) (Pt : Addr) : Sp := fun vs H Q _ => ∃ (a : Addr) (ns : List Str), vs = [.ref a] ∧ SqT K H a (ns.map V.str) ∧ ns.length ≤ 6 ∧ TabS H Pt qLam ∧
  ∀ H' D zs, ExtN H H' → TabS H' Pt qLam → H' D = some (.lst zs) → Reps K dPs H' zs ((made ns).mergeSort (PySem.W.dataLe false keyPs)) → Q (.ref D) H'
theorem scPa : FnScope ["names", "found", "name", "parts", "grown"] ["names"] (defScope TopL.sParts) := ⟨rfl, rfl, rfl, by decide +kernel, rfl, by decide +kernel, by decide +kernel⟩
theorem ok_parts {f fW c Pt : Addr} {fdW : FuncData} {oc : Value} {od an : Option Addr} {osl : Array (Option Value)} {kV doc pm ct : Value} (lk : K.lookup f = some ⟨oc, od, .func (PySem.W.fnOf "partitions" "partitions" (defArgs TopL.sParts) (defBody TopL.sParts) (defScope TopL.sParts) .none kV doc pm an (.ref c) ct), osl⟩)
    (hcd : PySem.W.codeIn K (.ref c) "partitions" = true) (zs : mg "sorted" = none) (zn : mg "len" = none) (TB : TabB base mg c Pt)
    (GW : FnOk P w K mg base CX0 1 fW fdW ["parts", "name"] spWith) (bW : Binds K fdW ["parts", "name"] []) (gW : mg "with_name" = some (.ref fW)) (kW : PySem.W.keepIn K (.ref fW) = true) :
    FnOk P w K mg base CX0 2 f (PySem.W.fnOf "partitions" "partitions" (defArgs TopL.sParts) (defBody TopL.sParts) (defScope TopL.sParts) .none kV doc pm an (.ref c) ct) ["names"] (spParts K Pt) := by
  refine okC lk hcd scPa (fun vs H Q E h => ?_) (fun A outer s H vs Q E hr h => ?_)
  · obtain ⟨a, ns, rfl, _⟩ := h
    rfl
  · obtain ⟨a, ns, rfl, ha, hl, hT, q⟩ := h
    refine ⟨_, pss_cons (ps_set (i := 1) scPa.nd rfl (.inl rfl) (pe_lstS (pa_cons (pe_tupS pa_nil) pa_nil)))
      (pss_cons (ps_for PassesOwn.never rfl (pi_tup (pv 0)) (pg_name (i := 2) scPa.nd rfl (Or.inr rfl))
        (pss_one (ps_setLc2 (i := 1) (own := [("parts", 3), ("grown", 4)]) (vs1 := [4]) (g := gName 3) (g1 := gName 4) (tt := tYes) (tt1 := tYes) (wi1 := iList K _) rfl scPa.nd rfl rfl (sw_true rfl rfl rfl (by decide +kernel)) (pi_list (pv 1)) (blkOk_by (N := ["names", "found", "name", "parts", "grown"]) (sc := defScope TopL.sParts) (by decide +kernel)) (by decide)
          (fun _ _ _ _ _ => pg_name (i := 3) scPa.nd rfl (Or.inl rfl)) (fun _ _ _ _ _ => pts_nil)
          (fun _ _ _ _ _ => pi_list (pe_call GW hr rfl gW kW bW .nil pass0 (pa_cons (pv 3) (pa_cons (pv 2) pa_nil))))
          (fun _ _ _ _ _ => pg_name (i := 4) scPa.nd rfl (Or.inl rfl)) (fun _ _ _ _ _ => pts_nil) (fun _ _ _ _ _ => pv 4))))
      (pss_one (ps_ret (pe_sortLam rfl zs zn hr TB rfl (pv 1))))), ?_⟩
    refine ⟨by simp, fun p0 H0 s0 n0 e0 => ⟨by simp, fun F1 H1 s1 n1 e1 => ?_⟩⟩
    have t1 : Same H H1 := s0.trans s1
    refine ⟨.ref a, rfl, a, rfl, ⟨_, same_tup t1 ha⟩, ?_⟩
    refine for_tup (xs := ns.map V.str) (fun i σ H' => ∃ F x2 x3 x4 zs, σ = [some (.ref a), some (.ref F), x2, x3, x4] ∧ Same H H' ∧ H' F = some (.lst zs) ∧ Paired (PtAt H') (made (ns.take i)) zs)
      ⟨F1, none, none, none, [.ref p0], rfl, t1, e1, .cons ⟨p0, [], rfl, s1 _ _ e0, .nil⟩ .nil⟩ (fun i σ H' _ ⟨F, x2, x3, x4, zs, _, s2, _⟩ => same_tup s2 ha) (fun i x σ H2 hx ⟨F, x2, x3, x4, zs, eσ, s2, eF, pz⟩ => ?_) (fun σ H2 ⟨F, x2, x3, x4, zs, eσ, s2, eF, pz⟩ => ?_)
    · subst eσ
      obtain ⟨n, hn, rfl⟩ : ∃ n, ns[i]? = some n ∧ x = .str n := by
        rw [List.getElem?_map] at hx
        cases hq : ns[i]? with
        | none => rw [hq] at hx; cases hx
        | some z => rw [hq] at hx; exact ⟨z, rfl, (Option.some.inj hx).symm⟩
      have hi : i < ns.length := (List.getElem?_eq_some_iff.mp hn).1
      have hm := made_snoc hn
      obtain ⟨b1, b2⟩ := made_len (ns.take i) (by rw [List.length_take]; omega)
      obtain ⟨b3, b4⟩ := made_len (ns.take (i + 1)) (by rw [List.length_take]; omega)
      rw [hm] at b3
      generalize hL : made (ns.take i) = L at *
      refine ⟨.ref F, rfl, F, rfl, ⟨zs, SqL.of eF⟩, fun D hD => ?_⟩
      refine ⟨fun j m H' => m = L.length - j ∧ j ≤ L.length ∧ Same H2 H' ∧ ∃ acc, H' D = some (.lst acc) ∧ Paired (PtAt H') (((L.take j).map fun p => withName p n).flatten) acc, ⟨_, rfl, Nat.zero_le _, same_new hD, [], upd_same, .nil⟩, ?_⟩
      rintro j m H3 ⟨rfl, hj, s3, acc, eD, pacc⟩
      have lz : zs.length = L.length := pz.length.symm
      by_cases hlt : j < L.length
      · refine .inr ⟨⟨zs, zs[j]'(by omega), SqL.of (s3 _ _ eF), List.getElem?_eq_getElem (by omega)⟩, fun H' => j + 1 ≤ L.length ∧ Same H2 H' ∧ ∃ acc, H' D = some (.lst acc) ∧ Paired (PtAt H') (((L.take (j + 1)).map fun p => withName p n).flatten) acc, fun H' h' => ⟨L.length - (j + 1), by omega, rfl, h'.1, h'.2⟩, fun x H4 hy => ?_⟩
        obtain ⟨rfl, hx4⟩ := hy
        have hzj := hx4 zs (SqL.of (s3 _ _ eF))
        obtain ⟨p, hp, r, ys, rfl, hr1, pm⟩ := pr_get (pts_mono s3 pz) hzj
        have hpm := List.mem_of_getElem? hp
        obtain ⟨c1, c2⟩ := b2 p hpm
        have fl := flat_at (fun p => withName p n) hp
        have fl2 : (grow L n).length = ((L.take j).map fun p => withName p n).flatten.length + ((withName p n).length + ((L.drop (j + 1)).map fun p => withName p n).flatten.length) := by
          unfold grow
          rw [fl, List.length_append, List.length_append]
        refine ⟨rfl, .ref r, rfl, .str n, rfl, r, ys, p, n, rfl, hr1, pm, c1, c2, fun H5 l1 zs1 s5 n5 e5 p5 => ⟨l1, rfl, ⟨zs1, SqL.of e5⟩, ?_⟩⟩
        have lz1 : zs1.length = (withName p n).length := p5.length.symm
        have lD : l1 ≠ D := fun z => by rw [z, eD] at n5; cases n5
        refine ⟨fun k m H' => m = zs1.length - k ∧ k ≤ zs1.length ∧ Same H2 H' ∧ H' l1 = some (.lst zs1) ∧ Paired (PtAt H') (withName p n) zs1 ∧ ∃ acc, H' D = some (.lst acc) ∧ Paired (PtAt H') (((L.take j).map fun p => withName p n).flatten ++ (withName p n).take k) acc,
          ⟨_, rfl, Nat.zero_le _, s3.trans s5, e5, p5, acc, s5 _ _ eD, by rw [List.take_zero, List.append_nil]; exact pts_mono s5 pacc⟩, ?_⟩
        rintro k m H6 ⟨rfl, hk, s6, e6, p6, acc6, eD6, pa6⟩
        by_cases hk2 : k < zs1.length
        · refine .inr ⟨⟨zs1, zs1[k]'hk2, SqL.of e6, List.getElem?_eq_getElem hk2⟩, fun H' => k + 1 ≤ zs1.length ∧ Same H2 H' ∧ H' l1 = some (.lst zs1) ∧ Paired (PtAt H') (withName p n) zs1 ∧ ∃ acc, H' D = some (.lst acc) ∧ Paired (PtAt H') (((L.take j).map fun p => withName p n).flatten ++ (withName p n).take (k + 1)) acc, fun H' h' => ⟨zs1.length - (k + 1), by omega, rfl, h'.1, h'.2⟩, fun x H7 hy => ?_⟩
          obtain ⟨rfl, hx7⟩ := hy
          have hzk := hx7 zs1 (SqL.of e6)
          obtain ⟨p7, hp7, pt7⟩ := pr_get p6 hzk
          refine ⟨rfl, x, rfl, acc6, eD6, ?_, hk2, fun b o eb => ?_, ?_, Paired.mono (fun _ _ m => m.upd eD6) p6, acc6 ++ [x], upd_same, ?_⟩
          · rw [← pa6.length, List.length_append, List.length_take]
            exact small1000 (by omega)
          · rw [upd_ne (ne_of_none eb hD)]
            exact s6 _ _ eb
          · rw [upd_ne lD]
            exact e6
          · rw [List.take_add_one, hp7, ← List.append_assoc]
            exact Paired.mono (fun _ _ m => m.upd eD6) (Paired.snoc pa6 pt7)
        · have ek : k = zs1.length := by omega
          subst ek
          rw [lz1, List.take_length] at pa6
          refine .inl ⟨⟨zs1, SqL.of e6, Nat.le_refl _⟩, hlt, s6, acc6, eD6, ?_⟩
          rw [List.take_add_one, hp, List.map_append, List.flatten_append]
          have e8 : ((Option.toList (some p)).map fun p => withName p n).flatten = withName p n := by
            show withName p n ++ [] = _
            rw [List.append_nil]
          rw [e8]
          exact pa6
      · have ej : j = L.length := by omega
        subst ej
        rw [List.take_length] at pacc
        refine .inl ⟨⟨zs, SqL.of (s3 _ _ eF), by omega⟩, ?_⟩
        refine ⟨D, some (.str n), x3, x4, acc, ?_, s2.trans s3, eD, ?_⟩
        · rfl
        · rw [hm]
          exact pacc
    · subst eσ
      rw [List.length_map, List.take_length] at pz
      have bb := made_len ns hl
      refine ⟨.ref F, rfl, F, zs, made ns, rfl, eF, reps_pts pz, by omega, fun b hb => ?_, hT.ext (fun _ _ e => s2 _ _ e), fun p H' ys e1 e2 e3 e4 => ?_⟩
      · have := (bb.2 b hb).1
        omega
      · exact q H' p ys (ExtN.trans (ExtN.of s2) e1) e2 e3 e4
end
end K2

set_option Elab.async false
set_option linter.all false
set_option maxRecDepth 100000
set_option maxHeartbeats 4000000
/-! Sets of any kind of keys, with what their walk asks; set(l) and sorted of a set of texts. (After HandS.Set and HandS.SetFor, which tell the same of ints.) -/
namespace FS
open PySem PySem.Spec PyProof.Rows L2
section
variable {P : Program} {w : World} {κ : Type} [DecidableEq κ] {kd : PySem.KeyKind P w κ}
/-- no two entries have one key -/
def Dis (kd : PySem.KeyKind P w κ) (es : List (Int × Value)) : Prop := es.Pairwise fun e f => ∀ k, kd.is k e.2 = true → kd.is k f.2 = true → False
theorem Dis.perm {es fs : List (Int × Value)} (d : Dis kd es) (p : fs.Perm es) : Dis kd fs := (p.symm.pairwise_iff (fun h k a b => h k b a)).mp d
/-- a set whose table rises, so that it can be walked -/
def Wk (kd : PySem.KeyKind P w κ) (h : Heap) (a : Addr) (S : κ → Bool) (n : Nat) : Prop :=
  ∃ o es ep t, (h.get? a = some o ∧ o.ExactSet ∧ o.data = .set es ep t) ∧ (ElemsOf kd es.toList ∧ Dis kd es.toList ∧ ∀ k, S k = true ↔ ∃ e ∈ es.toList, kd.is k e.2 = true) ∧
    (es.size < scanBound ∧ t.fits es.size = true ∧ es.size = n) ∧ Ris t.place.toList ∧ (w.params.followText "set-order" = true ∨ t.led = true)
theorem Wk.there {h h' : Heap} {a : Addr} {S : κ → Bool} {n : Nat} (x : Wk kd h a S n) (k : ∀ o, h.get? a = some o → h'.get? a = some o) : Wk kd h' a S n := by
  obtain ⟨o, es, ep, t, ⟨z, r⟩, q⟩ := x
  exact ⟨o, es, ep, t, ⟨k o z, r⟩, q⟩
theorem Wk.like {h : Heap} {a : Addr} {S S' : κ → Bool} {n : Nat} (x : Wk kd h a S n) (e : ∀ k, S' k = S k) : Wk kd h a S' n := (funext e : S' = S) ▸ x
theorem wk_new {h : Heap} {a : Addr} {S : κ → Bool} (hS : ∀ k, S k = false) (ho : h.get? a = some { cls := .type "set", dict := none, data := .set #[] 0 (.fresh 0 0 (!w.params.followText "set-order")) }) : Wk kd h a S 0 := by
  refine ⟨_, #[], 0, _, ⟨ho, ⟨rfl, rfl, rfl⟩, rfl⟩, ⟨fun e he => by simp at he, .nil, fun k => by simp [hS k]⟩, ⟨by decide, rfl, rfl⟩, .nil, ?_⟩
  cases hf : w.params.followText "set-order" with
  | true => exact .inl rfl
  | false => exact .inr (by show (!false) = true; rfl)
variable {A : Around} {E : Value → Shared → Prop} {s : Shared} {a : Addr} {S : κ → Bool} {n : Nat}
theorem wk_tail {gv : Bool → Sem Unit} (hg : ∀ (b : Bool) (z : Shared) (Q' : Unit → Shared → Prop), Q' () z → wpAny (model P w) A (gv b) Q' E z) {o : Obj} {es e1 : Array (Int × Value)} {ep : Nat} {t t2 : SetTable} {S' : κ → Bool} {was : Bool} {R : Option Bool → Shared → Prop}
    (at0 : s.heap.get? a = some o ∧ o.ExactSet ∧ o.data = .set es ep t) (el : ElemsOf kd e1.toList) (di : Dis kd e1.toList) (me : ∀ k, S' k = true ↔ ∃ e ∈ e1.toList, kd.is k e.2 = true) (few : e1.size < scanBound) (fi : t2.fits e1.size = true) (ri : Ris t2.place.toList)
    (le : w.params.followText "set-order" = true ∨ t2.led = true) (hR : ∀ h', Heap.SameBut a s.heap h' → Wk kd h' a S' e1.size → R (some true) { s with heap := h' }) :
    wpAny (model P w) A (do
        storeSet a e1 t2
        if (!was && t2.tooFull) = true then do
            gv (relayAll t2 e1 (SetTable.grown e1.size)).2.2
            storeSet a (relayAll t2 e1 (SetTable.grown e1.size)).1 (relayAll t2 e1 (SetTable.grown e1.size)).2.1
            pure (some true)
          else pure (some true)) R E s := by
  obtain ⟨ho, hx, hd⟩ := at0
  refine wpAny_bind (wpAny_storeSet_of ho hd ?_ (fits_of_scanBound few))
  have put := store_at (es' := e1) (t' := t2) ho hd
  have but := Heap.SameBut.update s.heap a (Obj.putSet e1 t2)
  split
  · have p1 := relayAll_perm t2 e1 (SetTable.grown e1.size)
    have p2 := relayAll_fits t2 e1 (SetTable.grown e1.size)
    have p3 := relayAll_ris t2 e1 (SetTable.grown e1.size)
    have p4 := relayAll_led t2 e1 (SetTable.grown e1.size)
    generalize relayAll t2 e1 (SetTable.grown e1.size) = Z at p1 p2 p3 p4 ⊢
    obtain ⟨e2, t3, gave⟩ := Z
    dsimp only at p1 p2 p3 p4 ⊢
    have z2 : e2.size = e1.size := by rw [← Array.length_toList, p1.length_eq, Array.length_toList]
    refine wpAny_bind (hg _ _ _ (wpAny_bind (wpAny_storeSet_of put rfl (wpAny_pure (hR _ (but.trans (Heap.SameBut.update _ a _)) ?_)) (fits_of_scanBound (by omega)))))
    refine ⟨_, e2, _, t3, ⟨store_at (es' := e2) (t' := t3) put rfl, hx, rfl⟩, ⟨fun e he => el e (p1.mem_iff.mp he), di.perm p1, fun k => (me k).trans ⟨fun ⟨e, he, q⟩ => ⟨e, p1.mem_iff.mpr he, q⟩, fun ⟨e, he, q⟩ => ⟨e, p1.mem_iff.mp he, q⟩⟩⟩, ⟨by omega, p2, z2⟩, p3, le.imp id fun z => ?_⟩
    rw [p4]
    exact z
  · exact wpAny_pure (hR _ but ⟨_, e1, _, t2, ⟨put, hx, rfl⟩, ⟨el, di, me⟩, ⟨few, fi, rfl⟩, ri, le⟩)
theorem wk_add {k : κ} {x : Value} {Q : Bool → Shared → Prop} (hk : kd.is k x = true) (hs : x.scannable = true) (R : Wk kd s.heap a S n) (room : n + 1 < scanBound)
    (hQ : ∀ h' m, m ≤ n + 1 → Heap.SameBut a s.heap h' → Wk kd h' a (fun j => S j || decide (j = k)) m → Q (!S k) { s with heap := h' }) : wpAny (model P w) A (setAddHashed a x (kd.hash k)) Q E s := by
  obtain ⟨o, es, ep, t, ⟨ho, hx, hd⟩, ⟨el, di, me⟩, ⟨few, fi, sz⟩, ri, le⟩ := R
  unfold setAddHashed setAddHashedIn
  refine wpAny_holding (wpAny_bind (wpAny_setState_of ho hd fi ?_))
  dsimp only
  rw [byScan_of hs few el]
  simp only [↓reduceIte]
  unfold setAddByScan
  refine wpAny_bind (wpAny_bind (wpAny_rule (wpAny_bind (wpAny_setScan_of hk ho hd fi el ?_))))
  cases hfi : List.findIdx? (fun e => kd.is k e.2) es.toList with
  | some j =>
    dsimp only
    obtain ⟨hj, pj, _⟩ := List.findIdx?_eq_some_iff_getElem.mp hfi
    have hS : S k = true := (me k).2 ⟨_, List.getElem_mem hj, pj⟩
    refine wpAny_pure (wpAny_pure ?_)
    have q := hQ s.heap n (Nat.le_succ _) (Heap.SameBut.refl a s.heap) ⟨o, es, ep, t, ⟨ho, hx, hd⟩, ⟨el, di, fun i => ?_⟩, ⟨few, fi, sz⟩, ri, le⟩
    · rw [hS] at q
      exact q
    · rw [Bool.or_eq_true, decide_eq_true_eq, ← me i]
      exact ⟨fun z => z.elim id fun e => e ▸ hS, .inl⟩
  | none =>
    dsimp only
    have hS : S k = false := by
      cases q : S k with
      | false => rfl
      | true =>
        obtain ⟨e, he, z⟩ := (me k).1 q
        have c := List.findIdx?_eq_none_iff.mp hfi e he
        rw [z] at c
        cases c
    have give : ∀ (b : Bool) {z : Shared} {Q' : Unit → Shared → Prop}, Q' () z → wpAny (model P w) A (match b with | true => rule "set.scan.the-table-gave-way" | false => pure ()) Q' E z := fun b z Q' q => by
      cases b
      · exact wpAny_pure q
      · exact wpAny_rule q
    have p1 := layNew_perm t es (kd.hash k) x
    have p2 := layNew_fits t es (kd.hash k) x
    have p3 := layNew_ris t es (kd.hash k) x ri
    have p4 := layNew_led t es (kd.hash k) x
    generalize layNew t es (kd.hash k) x = Z at p1 p2 p3 p4 ⊢
    obtain ⟨e1, t1, was, gave⟩ := Z
    dsimp only at p1 p2 p3 p4 ⊢
    rw [Array.toList_push] at p1
    have el1 : ElemsOf kd e1.toList := (el.push hk hs).perm p1
    have me1 := mem_push_iff hk me p1
    have di1 : Dis kd e1.toList := by
      refine Dis.perm ?_ p1
      refine List.pairwise_append.mpr ⟨di, List.pairwise_singleton _ _, fun e he f hf i a b => ?_⟩
      rw [List.mem_singleton.mp hf] at b
      have c := List.findIdx?_eq_none_iff.mp hfi e he
      have : i = k := kd.inj _ _ _ b hk
      rw [this] at a
      rw [a] at c
      cases c
    have sz1 : e1.size = n + 1 := by
      rw [← Array.length_toList, p1.length_eq, List.length_append, Array.length_toList, sz]
      rfl
    have le1 : w.params.followText "set-order" = true ∨ t1.led = true := le.imp id fun z => by rw [p4]; exact z
    have fin : ∀ h', Heap.SameBut a s.heap h' → Wk kd h' a (fun j => S j || decide (j = k)) e1.size → Q true { s with heap := h' } := fun h' b r => by
      have q := hQ h' _ (Nat.le_of_eq sz1) b r
      rw [hS] at q
      exact q
    refine wpAny_bind (give _ ?_)
    split
    · refine wpAny_bind ?_
      rw [hashByValue_scannable 8 hs]
      refine wpAny_pure (wk_tail (kd := kd) (S' := fun j => S j || decide (j = k)) ?_ ⟨ho, hx, hd⟩ el1 di1 me1 (by omega) ?_ ?_ ?_ fun h' b r => ?_)
      · intro b z Q' q
        cases b
        · exact wpAny_pure q
        · exact wpAny_rule q
      · split
        · exact p2
        · exact SetTable.fits_plain_off p2
      · split <;> exact p3
      · split <;> exact le1
      · dsimp only
        exact wpAny_pure (fin h' b r)
    · refine wpAny_bind (wpAny_pure ?_)
      simp only [↓reduceIte]
      refine wk_tail (kd := kd) (S' := fun j => S j || decide (j = k)) ?_ ⟨ho, hx, hd⟩ el1 di1 me1 (by omega) p2 p3 le1 fun h' b r => ?_
      · intro b z Q' q
        cases b
        · exact wpAny_pure q
        · exact wpAny_rule q
      · dsimp only
        exact wpAny_pure (fin h' b r)
/-- what stands for the keys ks, turn by turn -/
def Each (kd : PySem.KeyKind P w κ) (ks : List κ) (at_ : Nat → Value → Prop) : Prop := ∀ i v, at_ i v → ∃ k, ks[i]? = some k ∧ kd.is k v = true ∧ v.scannable = true
theorem wk_update {I : Addr} {fp wr : List Addr} {G : Array GenState → Array GenState → Prop} {n : Nat} {Pv : Nat → Value → Prop} {St : Nat → Shared → Prop} {R : Result → Shared → Prop} (W : WalksS P w A.in1 I fp wr G n Pv St) (d : Addr) (nd : d ∉ fp) (ks : List κ) (hn : n = ks.length)
    (few : ks.length + 1 < scanBound) (each : Each kd ks Pv) : ∀ (m i : Nat) (z : Shared), n - i = m → i ≤ n → St i z → (∃ c, c ≤ i ∧ Wk kd z.heap d (fun j => decide (j ∈ ks.take i)) c) →
      (∀ z' c, Moved (d :: wr) G z z' → c ≤ n → Wk kd z'.heap d (fun j => decide (j ∈ ks)) c → R (.ok (.ret .none)) z') → codeAny (model P w) A (.builtin "set.update.loop" ⟨[.ref d, .ref I], []⟩) R z := by
  have dw : d ∉ wr := fun h => nd (W.sub _ h)
  have sub : ∀ b ∈ wr, b ∈ d :: wr := fun b hb => List.mem_cons_of_mem _ hb
  intro m
  induction m with
  | zero =>
    intro i z hm hi st ⟨c, hc, x⟩ hR
    obtain rfl : i = n := by omega
    refine codeAny_builtin F.entry_set_update_loop ?_
    rw [Around.under_plainId F.plain_set_update_loop _]
    show wpAny _ A.in1 (pyNext (.ref I) >>= _) _ _ z
    refine wpAny_bind (W.done z _ _ st fun z' mv => ?_)
    rw [List.take_of_length_le (by omega : ks.length ≤ i)] at x
    exact wpAny_pure (hR z' c (mv.mono sub) hc (x.there fun o e => mv.heap d o dw e))
  | succ m ih =>
    intro i z hm hi st ⟨c, hc, x⟩ hR
    have lt : i < n := by omega
    refine codeAny_builtin F.entry_set_update_loop ?_
    rw [Around.under_plainId F.plain_set_update_loop _]
    show wpAny _ A.in1 (pyNext (.ref I) >>= _) _ _ z
    refine wpAny_bind (W.item i z _ _ lt st fun v z' pv st' mv => ?_)
    obtain ⟨k, hk, is, sc⟩ := each i v pv
    have x' := x.there (fun o e => mv.heap d o dw e)
    show wpAny _ A.in1 (holding [v] (setAdd d v) >>= _) _ _ z'
    refine wpAny_bind (wpAny_holding ?_)
    unfold setAdd
    refine wpAny_holding (wpAny_bind (kd.pyHash (k := k) is ?_))
    refine wk_add (s := { z' with toks := z'.toks + 1 }) is sc x' (by omega) fun h' c' hc' sb y => ?_
    have y' : Wk kd h' d (fun j => decide (j ∈ ks.take (i + 1))) c' := y.like fun j => by
      rw [List.take_add_one, hk]
      simp [List.mem_append]
    refine wpAny_pure ⟨plainId_quiet F.plain_set_update_loop _, ih (i + 1) _ (by omega) lt (W.frame _ z' _ _ st' (Nat.le_succ _) fun b hb o e => ?_) ⟨c', by omega, y'⟩ fun z2 c2 m2 h2 y2 => hR z2 c2 (Moved.trans W.gtrans ((mv.mono sub).then_heap (Nat.le_succ _) fun b o hb e => ?_) m2) h2 y2⟩
    · rw [sb.2 b fun h : b = d => nd (h ▸ hb)]
      exact e
    · rw [sb.2 b fun h : b = d => hb (h ▸ List.mem_cons_self ..)]
      exact e
set_option maxHeartbeats 3200000 in
theorem wk_of_list {l : Addr} {items : Array Value} (ks : List κ) {Q : Value → Shared → Prop} (hh : A.handled = none) (hl : s.heap.IsList l items) (hisz : items.size = ks.length) (hval : Each kd ks fun i v => items[i]? = some v) (hb : ks.length + 1 < scanBound)
    (h : ∀ (h' : Heap) (tk c : Nat), Wk kd h' s.heap.objs.size (fun j => decide (j ∈ ks)) c → c ≤ ks.length → (∀ b o, s.heap.get? b = some o → h'.get? b = some o) → Q (.ref s.heap.objs.size) { s with heap := h', toks := tk }) :
    wpAny (model P w) A (call (.type "set") [.ref l]) Q E s := by
  obtain ⟨c, tl, hmro⟩ := F.called_set.mro
  have hmade := F.called_set.made
  have hsub := F.called_set.sub
  refine wpAny_call (codeAny_of_tree ?_)
  show wpAny _ _ (callAny (.type "set") _) _ _ _
  refine wpAny_pure ⟨Code.quiet_builtin _ (by decide +kernel), codeAny_builtin F.entry_type_call ?_⟩
  rw [Around.under_plain (weight_type_call_type "set" [.ref l] []) rfl]
  have h1 := F.called_set.notType
  have h2 := F.called_set.canCreate
  have hct := F.typeCall_set_1 (.ref l)
  repeat (any_goals (first | assumption | wp_step))

  refine codeAny_mono (L2.code_set_led1 (.ref l) (E := E) (Q₁ := fun obj s₁ => obj = .ref s.heap.objs.size ∧ s₁ = { s with heap := s.heap.push { cls := .type "set", dict := none, data := .set #[] 0 (.fresh 0 0 (!w.params.followText "set-order")) } }) ⟨rfl, rfl⟩) fun r s₁ hr => ?_
  cases r with
  | error e => exact hr
  | ok fl =>
    cases fl with
    | ret obj =>
      obtain ⟨rfl, rfl⟩ := hr
      have hS : (s.heap.push { cls := .type "set", dict := none, data := .set #[] 0 (.fresh 0 0 (!w.params.followText "set-order")) }).get? s.heap.objs.size = some { cls := .type "set", dict := none, data := .set #[] 0 (.fresh 0 0 (!w.params.followText "set-order")) } := Heap.get?_push_size _ rfl
      have hT : Shared.TypeIs { s with heap := s.heap.push { cls := .type "set", dict := none, data := .set #[] 0 (.fresh 0 0 (!w.params.followText "set-order")) } } (.ref s.heap.objs.size) "set" := ⟨_, hS, rfl⟩
      have hli := F.called_set.init.lookup
      have hbi := F.called_set.init.bind (.ref s.heap.objs.size)
      repeat (any_goals (first | assumption | wp_step))

      refine codeAny_mono (codeAny_call_builtin (R := wants (fun r s₂ => r = .none ∧ ∃ h' tk c, s₂ = { s with heap := h', toks := tk } ∧ Wk kd h' s.heap.objs.size (fun j => decide (j ∈ ks)) c ∧ c ≤ ks.length ∧
          (∀ b o, s.heap.get? b = some o → h'.get? b = some o)) E) F.called_set.init.plain F.entry_set_init (check_set_init_1 hT ?_)) fun r₂ s₂ hr₂ => ?_
      · obtain ⟨ol, hol, hcl, nl, hdl⟩ := hl
        obtain ⟨ocls, odict, odata, oslots⟩ := ol
        simp only at hcl hdl
        subst hcl; subst hdl
        have hol' : (s.heap.push { cls := .type "set", dict := none, data := .set #[] 0 (.fresh 0 0 (!w.params.followText "set-order")) }).get? l = some { cls := .type "list", dict := odict, data := .seq items nl, slots := oslots } := Heap.get?_push_of_some _ hol
        have hsls := F.sub_list_set
        have hslf := F.sub_list_frozenset
        have hne : (Value.type "list" == Value.type "dict") = false := by decide
        have hl1 : (s.heap.push { cls := .type "set", dict := none, data := .set #[] 0 (.fresh 0 0 (!w.params.followText "set-order")) }).IsList l items := ⟨_, hol', rfl, nl, rfl⟩
        unfold Builtin.«set.__init__» noKeywords Builtin.Frozenset.updateFrom
        generalize hPI : pyIter = PI
        wp_walk
        subst hPI

        refine wpAny_pyIter_list hl1 ?_
        refine wpAny_bind (wpAny_runValue ?_)
        have hlS : l < s.heap.objs.size := Heap.lt_size hol
        have hh3 : A.in1.in1.in1.handled = none := by simp [hh]
        have hz1 : (s.heap.push { cls := .type "set", dict := none, data := .set #[] 0 (.fresh 0 0 (!w.params.followText "set-order")) }).objs.size = s.heap.objs.size + 1 := Heap.size_push ..
        have hneI : l ≠ (s.heap.push { cls := .type "set", dict := none, data := .set #[] 0 (.fresh 0 0 (!w.params.followText "set-order")) }).objs.size := by
          rw [Heap.size_push]; exact Nat.ne_of_lt (Nat.lt_succ_of_lt hlS)
        have hSf : s.heap.objs.size ∉ [(s.heap.push { cls := .type "set", dict := none, data := .set #[] 0 (.fresh 0 0 (!w.params.followText "set-order")) }).objs.size, l] := by
          rw [Heap.size_push]; simp only [List.mem_cons, List.mem_singleton, List.not_mem_nil, or_false, not_or]
          exact ⟨Nat.ne_of_lt (Nat.lt_succ_self _), Nat.ne_of_gt hlS⟩
        refine wk_update (kd := kd) ((Walks.list hh3 _ l hneI items).toS) s.heap.objs.size
          hSf ks hisz hb hval (items.size - 0) 0 _ (by omega) (Nat.zero_le _)
          ⟨⟨_, Heap.get?_push_size _ rfl, rfl, rfl⟩, (hl1.push _)⟩ ?hS0 ?hR
        case hS0 =>
          have hget : ((s.heap.push { cls := .type "set", dict := none, data := .set #[] 0 (.fresh 0 0 (!w.params.followText "set-order")) }).push { cls := .type "list_iterator", data := .fields #[.ref l, .int 0 0] }).get? s.heap.objs.size
              = some { cls := .type "set", dict := none, data := .set #[] 0 (.fresh 0 0 (!w.params.followText "set-order")) } := Heap.get?_push_of_some _ hS
          exact ⟨0, Nat.le_refl 0, wk_new (fun j => by simp) hget⟩
        case hR =>
          intro s' c' hm hc' hS'
          obtain ⟨h', g2, d', tk', os'⟩ := s'
          have eg : g2 = s.gens := hm.gens
          have ed : d' = s.drawn := hm.drawn
          have eo : os' = s.os := hm.os
          subst eg; subst ed; subst eo
          show wpAny _ _ _ _ _ _
          refine wpAny_pure ?_
          show wpAny _ _ (ret Value.none) _ _ _
          rw [hisz] at hc'
          refine wpAny_pure ⟨rfl, h', tk', c', rfl, hS', hc', fun b o e => ?_⟩
          have hb0 : b < s.heap.objs.size := Heap.lt_size e
          have hb1 : b ≠ s.heap.objs.size := Nat.ne_of_lt hb0
          have hb2 : b ≠ (s.heap.push { cls := .type "set", dict := none, data := .set #[] 0 (.fresh 0 0 (!w.params.followText "set-order")) }).objs.size := by
            rw [Heap.size_push]; exact Nat.ne_of_lt (Nat.lt_succ_of_lt hb0)
          exact hm.heap b o (by simp only [List.mem_cons, List.mem_singleton, List.not_mem_nil, or_false, not_or]; exact ⟨hb1, hb2⟩) (Heap.get?_push_of_some _ (Heap.get?_push_of_some _ e))

      · cases r₂ with
        | error e => exact hr₂
        | ok fl₂ =>
          cases fl₂ with
          | ret r =>
            obtain ⟨rfl, h', tk, c', rfl, hS', hc', hk'⟩ := hr₂
            repeat (any_goals (first | assumption | wp_step))
            exact h _ _ _ hS' hc' hk'
          | _ => exact hr₂.elim
    | _ => exact hr.elim
end
section
variable {P : Program} {w : World} {A : Around} {E : Value → Shared → Prop} {s : Shared}
theorem strs_kind {es : List (Int × Value)} (el : ElemsOf (PySem.strKind P w) es) : ∃ ks : List Str, StrsAre (es.map (·.2)) ks ∧ ∀ z, (∃ e ∈ es, (PySem.strKind P w).is z e.2 = true) ↔ z ∈ ks := by
  induction es with
  | nil => exact ⟨[], .nil, fun z => by simp⟩
  | cons e r ih =>
    obtain ⟨ks, h1, h2⟩ := ih fun f hf => el f (List.mem_cons_of_mem _ hf)
    obtain ⟨⟨k, hk, _⟩, _⟩ := el e (List.mem_cons_self ..)
    obtain ⟨t, et⟩ := Value.isStrOf_shape hk
    refine ⟨k :: ks, ?_, fun z => ?_⟩
    · show StrsAre (e.2 :: r.map (·.2)) _
      rw [et]
      exact .cons k t h1
    · rw [List.mem_cons, ← h2 z]
      constructor
      · rintro ⟨f, hf, q⟩
        rcases List.mem_cons.mp hf with rfl | hf
        · exact .inl ((PySem.strKind P w).inj _ _ _ q hk)
        · exact .inr ⟨f, hf, q⟩
      · rintro (rfl | ⟨f, hf, q⟩)
        · exact ⟨e, List.mem_cons_self .., hk⟩
        · exact ⟨f, List.mem_cons_of_mem _ hf, q⟩
theorem strs_mem : ∀ {vs : List Value} {ks : List Str} {k : Str}, StrsAre vs ks → k ∈ ks → ∃ u ∈ vs, ∃ t, u = .str k t
  | _, _, _, .nil, h => by cases h
  | _, _, _, .cons x t r, h => by
    rcases List.mem_cons.mp h with rfl | h
    · exact ⟨_, List.mem_cons_self .., t, rfl⟩
    · obtain ⟨u, hu, q⟩ := strs_mem r h
      exact ⟨u, List.mem_cons_of_mem _ hu, q⟩
theorem strs_perm {vs us : List Value} (p : us.Perm vs) : ∀ {ks : List Str}, StrsAre vs ks → ∃ qs, StrsAre us qs ∧ qs.Perm ks := by
  induction p with
  | nil => exact fun h => ⟨_, h, .refl _⟩
  | cons u _ ih =>
    intro ks h
    cases h with
    | cons x t h =>
      obtain ⟨qs, a, b⟩ := ih h
      exact ⟨x :: qs, .cons x t a, .cons x b⟩
  | swap u v r =>
    intro ks h
    cases h with
    | cons x t h =>
      cases h with
      | cons y t' h => exact ⟨_, .cons y t' (.cons x t h), .swap ..⟩
  | trans _ _ i1 i2 =>
    intro ks h
    obtain ⟨qs, a, b⟩ := i2 h
    obtain ⟨rs, c, d⟩ := i1 a
    exact ⟨rs, c, d.trans b⟩
theorem strs_ix : ∀ {vs : List Value} {ks : List Str} {i : Nat} {v : Value}, StrsAre vs ks → vs[i]? = some v → ∃ k t, ks[i]? = some k ∧ v = .str k t
  | _, _, _, _, .nil, h => by cases h
  | _, _, 0, _, .cons x t _, h => by
    cases h
    exact ⟨x, t, rfl, rfl⟩
  | _, _, i + 1, _, .cons _ _ r, h => strs_ix (i := i) r h
theorem strs_nodup : ∀ {es : List (Int × Value)} {ks : List Str}, Dis (PySem.strKind P w) es → StrsAre (es.map (·.2)) ks → ks.Nodup
  | [], _, _, h => by
    cases h
    exact .nil
  | e :: r, _, d, h => by
    have h : StrsAre (e.2 :: r.map (·.2)) _ := h
    generalize he : e.2 = v at h
    generalize hr : r.map (·.2) = vr at h
    cases h with
    | cons k t h2 =>
      have d' := List.pairwise_cons.mp d
      subst hr
      refine List.nodup_cons.mpr ⟨fun hk => ?_, strs_nodup d'.2 h2⟩
      obtain ⟨u, hu, tu, eu⟩ := strs_mem h2 hk
      obtain ⟨f, hf, rfl⟩ := List.mem_map.mp hu
      refine d'.1 f hf k ?_ ?_
      · rw [he]
        exact strKind_is _ _ _ _
      · rw [eu]
        exact strKind_is _ _ _ _
/-- sorted(d), d a set of texts -/
theorem sorted_wk {a : Addr} {S : Str → Bool} {n : Nat} {Q : Value → Shared → Prop} (R : Wk (PySem.strKind P w) s.heap a S n) (hh : A.handled = none) (few : n < 64)
    (hQ : ∀ (s' : Shared) (p : Addr) (out : Array Value) (c : Nat) (ys : List Str), (∀ b o, s.heap.get? b = some o → s'.heap.get? b = some o) → s'.gens = s.gens ∧ s'.os = s.os → s.heap.objs.size ≤ p → s'.heap.get? p = some (seqObj "list" out c) → StrsAre out.toList ys →
      sortedS ys = true → ys.Nodup → (∀ z, z ∈ ys ↔ S z = true) → ys.length = n → Q (.ref p) s') : wpAny (model P w) A (call (.builtin "sorted") [.ref a]) Q E s := by
  obtain ⟨o, es, ep, t, ⟨ho, hx, hd⟩, ⟨el, di, me⟩, ⟨fw, fi, sz⟩, ri, le⟩ := R
  refine Calls.call_function_entry kind_sorted plain_sorted entry_sorted (args_sorted1 _) ?_
  show wpAny _ _ (do checkCount "sorted" 1 1 1; let l ← newList (← collect (.ref a)); let _ ← holding [l] (call (.builtin "list.sort") [l] []); ret l) _ _ _
  refine wpAny_bind (m := checkCount "sorted" 1 1 1) (wpAny_pure (wpAny_bind (collect_set (A := A.in1) hh ⟨o, ho, hx.1, hd⟩ fi fw ri le fun s1 vs k1 z1 g1 o1 pm => ?_)))
  obtain ⟨ks, hks, hmk⟩ := strs_kind el
  have ndk := strs_nodup di hks
  obtain ⟨qs, hS, pq⟩ := strs_perm pm hks
  have lv : vs.length = n := by rw [pm.length_eq, List.length_map, Array.length_toList]; exact sz
  refine wpAny_bind (wpAny_newList ?_ (by rw [lv, sizeLine_eq]; omega))
  have at1 : (s1.heap.push (seqObj "list" vs.toArray 0)).get? s1.heap.objs.size = some (seqObj "list" vs.toArray 0) := Heap.get?_push_size _ rfl
  refine wpAny_bind (wpAny_holding (wpAny_call_entry slot_list_sort ⟨_, at1, rfl⟩ entry_list_sort (list_sort_treeK strKind_oneLt at1 hS.keysOf (fun a b r e => keyKind_strs (by rw [← e]; exact hS)) (by omega) fun st hp hs => ⟨_, rfl, ?_⟩) (args_list_sort _)))
  obtain ⟨ys, q1, q2, q3⟩ := sorted_out_str hS hp hs
  obtain ⟨e, at2⟩ := sortedHeap_at (out := (arrOf st).map (·.2)) at1
  have py := q2.trans pq
  refine wpAny_pure ⟨_, rfl, hQ _ _ _ e ys (fun b ob hb => ?_) ⟨g1, o1⟩ z1 at2 q1 q3 (py.nodup_iff.mpr ndk) (fun z => by rw [py.mem_iff, ← hmk z, me z]) ?_⟩
  · have k2 := k1 b ob hb
    have lb := Heap.lt_size k2
    show (sortedHeap (s1.heap.push (seqObj "list" vs.toArray 0)) s1.heap.objs.size vs ((arrOf st).map (·.2))).get? b = some ob
    rw [sortedHeap_old (Nat.ne_of_lt lb) (by rw [size_push']; exact Nat.lt_succ_of_lt lb)]
    exact Heap.get?_push_of_some _ k2
  · rw [py.length_eq, ← hks.len_eq, List.length_map, Array.length_toList]
    exact sz
end
section
variable {X : Cx}
def tSortSet (K : PySem.W.Frag) (te : TE) : TE := fun σ H Q => te σ H fun x H1 => ∃ (l : Addr) (ks : List Str), x = .ref l ∧ SqL K H1 l (ks.map V.str) ∧ ks.length < 64 ∧ ∀ p H' (ys : List Str), Same H1 H' → H1 p = none → H' p = some (.lst (ys.map V.str)) → sortedS ys = true → ys.Nodup → (∀ z, z ∈ ys ↔ z ∈ ks) → ys.length ≤ ks.length → Q (.ref p) H'
theorem pe_sortSet {e : Expr} {te : TE} {p1 p2 p3 p4 : Pos} (hc : X.calm = true) (hg : Gl X "sorted") (hm : X.mg "sorted" = none) (hg2 : Gl X "set") (hm2 : X.mg "set" = none) (he : PE X e te)
    (one : starEach [e] X.env = (false, eval e X.env) :: starEach [] X.env := by rfl) (two : starEach [.Call (.Name "set" p2) [e] [] p3] X.env = (false, eval (.Call (.Name "set" p2) [e] [] p3) X.env) :: starEach [] X.env := by rfl) :
    PE X (.Call (.Name "sorted" p1) [.Call (.Name "set" p2) [e] [] p3] [] p4) (tSortSet X.K te) := by
  refine ⟨fun pins s σ H Q I h => Call_ (ld_blt (u := .builtin "sorted") I hg hm (by decide +kernel) (PyProof.Rows.callWith_builtin1 (args_cons (Call_ (ld_blt (u := .type "set") I hg2 hm2 (by decide +kernel) (PyProof.Rows.callWith_type1 (args_cons (thn (he.run pins s σ H _ I h) ?_) one) one rfl))) two) two rfl))⟩
  rintro u z ⟨v, H1, J, hu, l, ks, rfl, hl, few, q⟩
  obtain rfl : u = Value.ref l := hu
  obtain ⟨its, vals, pl, small⟩ := J.list hl
  have sa := vals.strs
  have li := sa.len_eq
  refine args_nil (wk_of_list (kd := PySem.strKind X.prog X.w) ks (J.ok.hd hc) pl.isList (by rw [List.size_toArray]; exact li) (fun i v hv => ?_) (Nat.lt_of_le_of_lt (by omega : ks.length + 1 ≤ 64) (by decide +kernel)) fun h' tk c R hc' keep => args_nil ?_)
  · obtain ⟨k, t, hk, et⟩ := strs_ix sa (by simpa using hv)
    subst et
    exact ⟨k, hk, strKind_is _ _ _ _, rfl⟩
  have I1 : Inv X pins σ H1 { z with heap := h', toks := tk } := J.kept keep
  refine sorted_wk (s := { z with heap := h', toks := tk }) R (J.ok.hd hc) (by omega) fun s' p out cc ys k ⟨g, o⟩ hp hg' hi hs hn hm' hl' => ?_
  have ln : (ys.map V.str).length ≤ sizeLine := by rw [List.length_map, hl', sizeLine_eq]; omega
  have nf : H1 p = none := I1.hok.fresh hp
  have I2 : Inv X pins σ (upd H1 p (.lst (ys.map V.str))) { { z with heap := h', toks := tk } with heap := s'.heap, gens := s'.gens, drawn := s'.drawn, toks := s'.toks } :=
    I1.call (ch := []) (Un.laid k hp nf) (I1.hok.laid k hp ⟨ln, out.toList, cc, vals_of_strs hi, hg'⟩) (by rw [g]; exact I1.bare) (fun _ z => nomatch z)
  have es : s' = { { z with heap := h', toks := tk } with heap := s'.heap, gens := s'.gens, drawn := s'.drawn, toks := s'.toks } := by
    cases s'
    cases o
    rfl
  rw [es]
  exact ⟨.ref p, _, I2, rfl, q p _ ys (same_new nf) nf upd_same hs hn (fun z => by rw [hm' z, decide_eq_true_eq]) (by omega)⟩
end
end FS

set_option Elab.async false
set_option linter.all false
set_option maxRecDepth 100000
set_option maxHeartbeats 4000000
/-! zip of a list and a tuple. -/
namespace FS
open PySem PySem.Spec PyProof.Rows L2
def ItM (K : PySem.W.Frag) (a b : Addr) : It :=
  ⟨fun i H => ∃ (xs ys : List V) (x y : V), SqL K H a xs ∧ SqT K H b ys ∧ xs[i]? = some x ∧ ys[i]? = some y,
    fun i H v H' => ∃ T x y, v = .ref T ∧ H T = none ∧ H' = upd H T (.tup [x, y]) ∧ (∀ xs, SqL K H a xs → xs[i]? = some x) ∧ ∀ ys, SqT K H b ys → ys[i]? = some y,
    fun i H => ∃ xs ys : List V, SqL K H a xs ∧ SqT K H b ys ∧ (i = xs.length ∨ i = ys.length) ∧ i ≤ xs.length ∧ i ≤ ys.length⟩
theorem turn_zipM {P : Program} {w : World} {K : PySem.W.Frag} {elts : List Expr} {kk : Nat} {tpos : Pos} {a b z TI TO i1 i2 : Addr} (S : ZipSep2 z TI TO i1 i2 [i1, a] [i2, b]) (na : a ≠ i1) (nb : b ≠ i2) :
    Turn P w K (.Tuple elts kk tpos) (ItM K a b) [z, TI, TO, i1, i2] z (fun i h => IsZip h z TI TO .none ∧ IsTupOf2 h TI (.ref i1) (.ref i2) ∧ (∃ x y, IsTupOf2 h TO x y) ∧ h.IsListIter i1 a i ∧ h.IsTupleIter i2 b i) where
  mem := by simp
  obj := fun i h ⟨q1, q2, ⟨x, y, q3⟩, ⟨o1, e1, _, d1⟩, ⟨o2, e2, _, d2⟩⟩ c hc => by
    have hcs : c = z ∨ c = TI ∨ c = TO ∨ c = i1 ∨ c = i2 := by simpa using hc
    rcases hcs with rfl | rfl | rfl | rfl | rfl
    · exact ⟨_, q1, fun v q => nomatch q⟩
    · exact ⟨_, q2, fun v q => nomatch q⟩
    · exact ⟨_, q3, fun v q => nomatch q⟩
    · exact ⟨o1, e1, fun v q => by rw [d1] at q; cases q⟩
    · exact ⟨o2, e2, fun v q => by rw [d2] at q; cases q⟩
  keep := fun i h h' ⟨q1, q2, ⟨x, y, q3⟩, q4, q5⟩ k => ⟨k z (by simp) _ q1, k TI (by simp) _ q2, ⟨x, y, k TO (by simp) _ q3⟩, q4.at fun o q => k i1 (by simp) o q, q5.at fun o q => k i2 (by simp) o q⟩
  item := by
    intro X eP ew eK hc i pins s σ H E I hf ⟨q1, q2, ⟨x0, y0, q3⟩, q4, q5⟩ ⟨xs, ys, x, y, hqx, hqy, hx, hy⟩
    subst eP ew eK
    obtain ⟨its, rv, p1, _⟩ := I.list hqx
    obtain ⟨its2, rv2, p2, _⟩ := I.tuple hqy
    obtain ⟨u, hu, ru⟩ := rv.get hx
    obtain ⟨u2, hu2, ru2⟩ := rv2.get hy
    have hh : X.A.in1.handled = none := I.ok.hd hc
    have hu' : its.toArray[i]? = some u := by simpa using hu
    have hu2' : its2.toArray[i]? = some u2 := by simpa using hu2
    have l1 : i < its.toArray.size := (Array.getElem?_eq_some_iff.mp hu').1
    have l2 : i < its2.toArray.size := (Array.getElem?_eq_some_iff.mp hu2').1
    have hzl : z < s.heap.objs.size := Heap.lt_size q1
    refine wpAny_pyNext_zipD2_item S (.list hh i1 a na its.toArray) (.tuple hh i2 b nb its2.toArray) q1 q2 q3 ⟨q4, p1.isList⟩ ⟨q5, p2⟩ l1 l2 fun v1 v2 h' tk e1 e2 z1 t1 st1 st2 tt hsz hk => ?_
    obtain rfl : v1 = u := Option.some.inj (e1.symm.trans hu')
    obtain rfl : v2 = u2 := Option.some.inj (e2.symm.trans hu2')
    refine ⟨_, rfl, wpAny_letOwnedTupleGo_zip (s := { s with heap := h', toks := tk }) z1 fun h'' z'' sb => ?_⟩
    have tt2 : IsTupOf2 h'' s.heap.objs.size v1 v2 := (sb.2 _ (Nat.ne_of_gt hzl)).trans tt
    have new : ObjOk X.prog X.w (upd H s.heap.objs.size (.tup [x, y])) h'' s.heap.objs.size (.tup [x, y]) := ⟨by show 2 ≤ sizeLine; decide, [v1, v2], .cons ru (.cons ru2 .nil), ⟨_, tt2, rfl, _, rfl⟩⟩
    have kk : ∀ c o, c ∉ [z, TI, TO, i1, i2] → s.heap.get? c = some o → h''.get? c = some o := fun c o hb q => (sb.2 c (fun q' => hb (by simp [q']))).trans (hk c o (fun q' => hb (by simp [q'])) (fun q' => hb (by simp [q'])) (fun q' => hb (by simp [q'])) (fun q' => hb (by simp [q'])) q)
    have I1 : Inv X pins σ (upd H s.heap.objs.size (.tup [x, y])) { s with heap := h'', toks := tk } := I.turnedNew (t' := tk) (ch := [z, TI, TO, i1, i2]) kk hf (Nat.le_refl _) new
    have zi1 := S.zi1
    have zi2 := S.zi2
    refine ⟨.ref s.heap.objs.size, _, I1, rfl, ⟨_, x, y, rfl, I.hok.fresh (Nat.le_refl _), rfl, fun l hl => by rw [I.list_inj hl hqx]; exact hx, fun l hl => by rw [I.tuple_inj hl hqy]; exact hy⟩, ⟨z'', ?_, ⟨v1, v2, ?_⟩, ?_, ?_⟩, fun c hcm => ?_⟩
    · exact (sb.2 _ S.TIz).trans (hk _ _ S.TIz S.TITO S.TIi1 S.TIi2 q2)
    · exact (sb.2 _ S.TOz).trans t1
    · exact st1.1.at fun o q => (sb.2 _ zi1.symm).trans q
    · exact st2.1.at fun o q => (sb.2 _ zi2.symm).trans q
    · have hlt : c < s.heap.objs.size := by
        have hcs : c = z ∨ c = TI ∨ c = TO ∨ c = i1 ∨ c = i2 := by simpa using hcm
        rcases hcs with rfl | rfl | rfl | rfl | rfl
        · exact hzl
        · exact Heap.lt_size q2
        · exact Heap.lt_size q3
        · obtain ⟨_, e9, _⟩ := q4; exact Heap.lt_size e9
        · obtain ⟨_, e9, _⟩ := q5; exact Heap.lt_size e9
      rw [upd_ne (Nat.ne_of_lt hlt)]
      exact (hf c hcm).1
  done := by
    intro X eP ew eK hc i pins s σ H E I hf ⟨q1, q2, ⟨x0, y0, q3⟩, q4, q5⟩ ⟨xs, ys, hqx, hqy, hend, h1, h2⟩
    subst eP ew eK
    obtain ⟨its, rv, p1, _⟩ := I.list hqx
    obtain ⟨its2, rv2, p2, _⟩ := I.tuple hqy
    have hh : X.A.in1.handled = none := I.ok.hd hc
    have n1 := rv.length
    have n2 := rv2.length
    have z1 : its.toArray.size = its.length := List.size_toArray
    have z2 : its2.toArray.size = its2.length := List.size_toArray
    refine wpAny_pyNext_zipD2_end S (.list hh i1 a na its.toArray) (.tuple hh i2 b nb its2.toArray) q1 q2 q3 ⟨q4, p1.isList⟩ ⟨q5, p2⟩ (by omega) (by omega) (by omega) fun h' tk hk => ⟨rfl, ?_⟩
    exact I.turnedL (t' := tk) (ch := [z, TI, TO, i1, i2]) (fun c o hb q => hk c o (fun q' => hb (by simp [q'])) (fun q' => hb (by simp [q'])) (fun q' => hb (by simp [q'])) (fun q' => hb (by simp [q'])) q) hf
  self := fun A i s Q E st h => wpAny_pyIter_zip st.1 h
def iZipM (K : PySem.W.Frag) (ta : TA) : TI := fun σ H R => ta σ H fun vs H1 => ∃ a b xs ys, vs = [.ref a, .ref b] ∧ SqL K H1 a xs ∧ SqT K H1 b ys ∧ R (ItM K a b) H1
theorem pi_zipM {X : Cx} {e e2 : Expr} {ta : TA} {p pos tpos : Pos} {elts : List Expr} {kk : Nat} (hg : Gl X "zip") (hm : X.mg "zip" = none) (ha : PA X [e, e2] ta)
    (hs : starEach [e, e2] X.env = (false, eval e X.env) :: starEach [e2] X.env := by rfl) (hpl : (backTo pos (starEach [e2] X.env)).any (·.1) = false := by rfl) :
    PI X (.Tuple elts kk tpos) (.Call (.Name "zip" p) [e, e2] [] pos) (iZipM X.K ta) := by
  refine ⟨fun pins s0 σ H R I h => ?_⟩
  refine Call_ (ld_blt I hg hm PyProof.Rows.boot_zip (PyProof.Rows.callWith_type1 (thn (ha.run pos pins s0 σ H _ I h) fun us s1 ⟨vs, H1, I1, r1, a, b, xs, ys, ex, hqx, hqy, q⟩ => ?_) hs hpl))
  subst ex
  obtain ⟨u1, u2, rfl, ra, rb⟩ := vals2 r1
  cases (show u1 = Value.ref a from ra)
  cases (show u2 = Value.ref b from rb)
  obtain ⟨its, rv, p1, _⟩ := I1.list hqx
  obtain ⟨its2, rv2, p2, _⟩ := I1.tuple hqy
  have la : a < s1.heap.objs.size := p1.lt
  have lb : b < s1.heap.objs.size := by obtain ⟨o, ho, _⟩ := id p2; exact Heap.lt_size ho
  refine zip_begins2 (begins_list a its.toArray) (begins_tuple b its2.toArray) p1.isList p2 fun h' hz hTI hTO e1 e2 hsz hk => wpAny_pyIter_zip hz ?_
  have I2 : Inv X pins σ H1 { s1 with heap := h' } := I1.kept (t' := s1.toks) hk
  have S : ZipSep2 (s1.heap.objs.size + 4) (s1.heap.objs.size + 2) (s1.heap.objs.size + 3) s1.heap.objs.size (s1.heap.objs.size + 1) [s1.heap.objs.size, a] [s1.heap.objs.size + 1, b] := zip_sep2 (fp1 := [a]) (fp2 := [b]) (by simpa using la) (by simpa using lb)
  refine ⟨s1.heap.objs.size + 4, [s1.heap.objs.size + 4, s1.heap.objs.size + 2, s1.heap.objs.size + 3, s1.heap.objs.size, s1.heap.objs.size + 1], _, _, H1, rfl, I2, turn_zipM S (Nat.ne_of_lt la) (Nat.ne_of_lt (Nat.lt_succ_of_lt lb)), ⟨hz, hTI, ⟨_, _, hTO⟩, ⟨_, e1, rfl, rfl⟩, ⟨_, e2, rfl, rfl⟩⟩, fun c hcm => ?_, q⟩
  have hle : s1.heap.objs.size ≤ c := by
    have hcs : c = s1.heap.objs.size + 4 ∨ c = s1.heap.objs.size + 2 ∨ c = s1.heap.objs.size + 3 ∨ c = s1.heap.objs.size ∨ c = s1.heap.objs.size + 1 := by simpa using hcm
    rcases hcs with rfl | rfl | rfl | rfl | rfl <;> first | exact Nat.le_refl _ | exact Nat.le_add_right _ _
  exact I1.fpOk hle (I1.hok.fresh hle)
theorem walk_zipM {K : PySem.W.Frag} {a b : Addr} {xs ys : List V} {n : Nat} (hn : n = min xs.length ys.length) : Walk (ItM K a b) n (fun H => SqL K H a xs ∧ SqT K H b ys) (YPair (fun i => xs[i]?) (fun i => ys[i]?)) := by
  subst hn
  refine ⟨fun i H hi ⟨q1, q2⟩ => ⟨xs, ys, xs[i]'(by omega), ys[i]'(by omega), q1, q2, List.getElem?_eq_getElem _, List.getElem?_eq_getElem _⟩, fun H ⟨q1, q2⟩ => ⟨xs, ys, q1, q2, by omega, by omega, by omega⟩, fun i H v H' _ ⟨q1, q2⟩ ⟨T, x, y, e, n, eH, f1, f2⟩ => ⟨T, x, y, e, n, eH, f1 _ q1, f2 _ q2⟩⟩
end FS

set_option Elab.async false
set_option linter.all false
set_option maxRecDepth 100000
set_option maxHeartbeats 4000000
/-! zip of a tuple and a list. -/
namespace FS
open PySem PySem.Spec PyProof.Rows L2
def ItW (K : PySem.W.Frag) (a b : Addr) : It :=
  ⟨fun i H => ∃ (xs ys : List V) (x y : V), SqT K H a xs ∧ SqL K H b ys ∧ xs[i]? = some x ∧ ys[i]? = some y,
    fun i H v H' => ∃ T x y, v = .ref T ∧ H T = none ∧ H' = upd H T (.tup [x, y]) ∧ (∀ xs, SqT K H a xs → xs[i]? = some x) ∧ ∀ ys, SqL K H b ys → ys[i]? = some y,
    fun i H => ∃ xs ys : List V, SqT K H a xs ∧ SqL K H b ys ∧ (i = xs.length ∨ i = ys.length) ∧ i ≤ xs.length ∧ i ≤ ys.length⟩
theorem turn_zipW {P : Program} {w : World} {K : PySem.W.Frag} {elts : List Expr} {kk : Nat} {tpos : Pos} {a b z TI TO i1 i2 : Addr} (S : ZipSep2 z TI TO i1 i2 [i1, a] [i2, b]) (na : a ≠ i1) (nb : b ≠ i2) :
    Turn P w K (.Tuple elts kk tpos) (ItW K a b) [z, TI, TO, i1, i2] z (fun i h => IsZip h z TI TO .none ∧ IsTupOf2 h TI (.ref i1) (.ref i2) ∧ (∃ x y, IsTupOf2 h TO x y) ∧ h.IsTupleIter i1 a i ∧ h.IsListIter i2 b i) where
  mem := by simp
  obj := fun i h ⟨q1, q2, ⟨x, y, q3⟩, ⟨o1, e1, _, d1⟩, ⟨o2, e2, _, d2⟩⟩ c hc => by
    have hcs : c = z ∨ c = TI ∨ c = TO ∨ c = i1 ∨ c = i2 := by simpa using hc
    rcases hcs with rfl | rfl | rfl | rfl | rfl
    · exact ⟨_, q1, fun v q => nomatch q⟩
    · exact ⟨_, q2, fun v q => nomatch q⟩
    · exact ⟨_, q3, fun v q => nomatch q⟩
    · exact ⟨o1, e1, fun v q => by rw [d1] at q; cases q⟩
    · exact ⟨o2, e2, fun v q => by rw [d2] at q; cases q⟩
  keep := fun i h h' ⟨q1, q2, ⟨x, y, q3⟩, q4, q5⟩ k => ⟨k z (by simp) _ q1, k TI (by simp) _ q2, ⟨x, y, k TO (by simp) _ q3⟩, q4.at fun o q => k i1 (by simp) o q, q5.at fun o q => k i2 (by simp) o q⟩
  item := by
    intro X eP ew eK hc i pins s σ H E I hf ⟨q1, q2, ⟨x0, y0, q3⟩, q4, q5⟩ ⟨xs, ys, x, y, hqx, hqy, hx, hy⟩
    subst eP ew eK
    obtain ⟨its, rv, p1, _⟩ := I.tuple hqx
    obtain ⟨its2, rv2, p2, _⟩ := I.list hqy
    obtain ⟨u, hu, ru⟩ := rv.get hx
    obtain ⟨u2, hu2, ru2⟩ := rv2.get hy
    have hh : X.A.in1.handled = none := I.ok.hd hc
    have hu' : its.toArray[i]? = some u := by simpa using hu
    have hu2' : its2.toArray[i]? = some u2 := by simpa using hu2
    have l1 : i < its.toArray.size := (Array.getElem?_eq_some_iff.mp hu').1
    have l2 : i < its2.toArray.size := (Array.getElem?_eq_some_iff.mp hu2').1
    have hzl : z < s.heap.objs.size := Heap.lt_size q1
    refine wpAny_pyNext_zipD2_item S (.tuple hh i1 a na its.toArray) (.list hh i2 b nb its2.toArray) q1 q2 q3 ⟨q4, p1⟩ ⟨q5, p2.isList⟩ l1 l2 fun v1 v2 h' tk e1 e2 z1 t1 st1 st2 tt hsz hk => ?_
    obtain rfl : v1 = u := Option.some.inj (e1.symm.trans hu')
    obtain rfl : v2 = u2 := Option.some.inj (e2.symm.trans hu2')
    refine ⟨_, rfl, wpAny_letOwnedTupleGo_zip (s := { s with heap := h', toks := tk }) z1 fun h'' z'' sb => ?_⟩
    have tt2 : IsTupOf2 h'' s.heap.objs.size v1 v2 := (sb.2 _ (Nat.ne_of_gt hzl)).trans tt
    have new : ObjOk X.prog X.w (upd H s.heap.objs.size (.tup [x, y])) h'' s.heap.objs.size (.tup [x, y]) := ⟨by show 2 ≤ sizeLine; decide, [v1, v2], .cons ru (.cons ru2 .nil), ⟨_, tt2, rfl, _, rfl⟩⟩
    have kk : ∀ c o, c ∉ [z, TI, TO, i1, i2] → s.heap.get? c = some o → h''.get? c = some o := fun c o hb q => (sb.2 c (fun q' => hb (by simp [q']))).trans (hk c o (fun q' => hb (by simp [q'])) (fun q' => hb (by simp [q'])) (fun q' => hb (by simp [q'])) (fun q' => hb (by simp [q'])) q)
    have I1 : Inv X pins σ (upd H s.heap.objs.size (.tup [x, y])) { s with heap := h'', toks := tk } := I.turnedNew (t' := tk) (ch := [z, TI, TO, i1, i2]) kk hf (Nat.le_refl _) new
    have zi1 := S.zi1
    have zi2 := S.zi2
    refine ⟨.ref s.heap.objs.size, _, I1, rfl, ⟨_, x, y, rfl, I.hok.fresh (Nat.le_refl _), rfl, fun l hl => by rw [I.tuple_inj hl hqx]; exact hx, fun l hl => by rw [I.list_inj hl hqy]; exact hy⟩, ⟨z'', ?_, ⟨v1, v2, ?_⟩, ?_, ?_⟩, fun c hcm => ?_⟩
    · exact (sb.2 _ S.TIz).trans (hk _ _ S.TIz S.TITO S.TIi1 S.TIi2 q2)
    · exact (sb.2 _ S.TOz).trans t1
    · exact st1.1.at fun o q => (sb.2 _ zi1.symm).trans q
    · exact st2.1.at fun o q => (sb.2 _ zi2.symm).trans q
    · have hlt : c < s.heap.objs.size := by
        have hcs : c = z ∨ c = TI ∨ c = TO ∨ c = i1 ∨ c = i2 := by simpa using hcm
        rcases hcs with rfl | rfl | rfl | rfl | rfl
        · exact hzl
        · exact Heap.lt_size q2
        · exact Heap.lt_size q3
        · obtain ⟨_, e9, _⟩ := q4; exact Heap.lt_size e9
        · obtain ⟨_, e9, _⟩ := q5; exact Heap.lt_size e9
      rw [upd_ne (Nat.ne_of_lt hlt)]
      exact (hf c hcm).1
  done := by
    intro X eP ew eK hc i pins s σ H E I hf ⟨q1, q2, ⟨x0, y0, q3⟩, q4, q5⟩ ⟨xs, ys, hqx, hqy, hend, h1, h2⟩
    subst eP ew eK
    obtain ⟨its, rv, p1, _⟩ := I.tuple hqx
    obtain ⟨its2, rv2, p2, _⟩ := I.list hqy
    have hh : X.A.in1.handled = none := I.ok.hd hc
    have n1 := rv.length
    have n2 := rv2.length
    have z1 : its.toArray.size = its.length := List.size_toArray
    have z2 : its2.toArray.size = its2.length := List.size_toArray
    refine wpAny_pyNext_zipD2_end S (.tuple hh i1 a na its.toArray) (.list hh i2 b nb its2.toArray) q1 q2 q3 ⟨q4, p1⟩ ⟨q5, p2.isList⟩ (by omega) (by omega) (by omega) fun h' tk hk => ⟨rfl, ?_⟩
    exact I.turnedL (t' := tk) (ch := [z, TI, TO, i1, i2]) (fun c o hb q => hk c o (fun q' => hb (by simp [q'])) (fun q' => hb (by simp [q'])) (fun q' => hb (by simp [q'])) (fun q' => hb (by simp [q'])) q) hf
  self := fun A i s Q E st h => wpAny_pyIter_zip st.1 h
def iZipW (K : PySem.W.Frag) (ta : TA) : TI := fun σ H R => ta σ H fun vs H1 => ∃ a b xs ys, vs = [.ref a, .ref b] ∧ SqT K H1 a xs ∧ SqL K H1 b ys ∧ R (ItW K a b) H1
theorem pi_zipW {X : Cx} {e e2 : Expr} {ta : TA} {p pos tpos : Pos} {elts : List Expr} {kk : Nat} (hg : Gl X "zip") (hm : X.mg "zip" = none) (ha : PA X [e, e2] ta)
    (hs : starEach [e, e2] X.env = (false, eval e X.env) :: starEach [e2] X.env := by rfl) (hpl : (backTo pos (starEach [e2] X.env)).any (·.1) = false := by rfl) :
    PI X (.Tuple elts kk tpos) (.Call (.Name "zip" p) [e, e2] [] pos) (iZipW X.K ta) := by
  refine ⟨fun pins s0 σ H R I h => ?_⟩
  refine Call_ (ld_blt I hg hm PyProof.Rows.boot_zip (PyProof.Rows.callWith_type1 (thn (ha.run pos pins s0 σ H _ I h) fun us s1 ⟨vs, H1, I1, r1, a, b, xs, ys, ex, hqx, hqy, q⟩ => ?_) hs hpl))
  subst ex
  obtain ⟨u1, u2, rfl, ra, rb⟩ := vals2 r1
  cases (show u1 = Value.ref a from ra)
  cases (show u2 = Value.ref b from rb)
  obtain ⟨its, rv, p1, _⟩ := I1.tuple hqx
  obtain ⟨its2, rv2, p2, _⟩ := I1.list hqy
  have lb : b < s1.heap.objs.size := p2.lt
  have la : a < s1.heap.objs.size := by obtain ⟨o, ho, _⟩ := id p1; exact Heap.lt_size ho
  refine zip_begins2 (begins_tuple a its.toArray) (begins_list b its2.toArray) p1 p2.isList fun h' hz hTI hTO e1 e2 hsz hk => wpAny_pyIter_zip hz ?_
  have I2 : Inv X pins σ H1 { s1 with heap := h' } := I1.kept (t' := s1.toks) hk
  have S : ZipSep2 (s1.heap.objs.size + 4) (s1.heap.objs.size + 2) (s1.heap.objs.size + 3) s1.heap.objs.size (s1.heap.objs.size + 1) [s1.heap.objs.size, a] [s1.heap.objs.size + 1, b] := zip_sep2 (fp1 := [a]) (fp2 := [b]) (by simpa using la) (by simpa using lb)
  refine ⟨s1.heap.objs.size + 4, [s1.heap.objs.size + 4, s1.heap.objs.size + 2, s1.heap.objs.size + 3, s1.heap.objs.size, s1.heap.objs.size + 1], _, _, H1, rfl, I2, turn_zipW S (Nat.ne_of_lt la) (Nat.ne_of_lt (Nat.lt_succ_of_lt lb)), ⟨hz, hTI, ⟨_, _, hTO⟩, ⟨_, e1, rfl, rfl⟩, ⟨_, e2, rfl, rfl⟩⟩, fun c hcm => ?_, q⟩
  have hle : s1.heap.objs.size ≤ c := by
    have hcs : c = s1.heap.objs.size + 4 ∨ c = s1.heap.objs.size + 2 ∨ c = s1.heap.objs.size + 3 ∨ c = s1.heap.objs.size ∨ c = s1.heap.objs.size + 1 := by simpa using hcm
    rcases hcs with rfl | rfl | rfl | rfl | rfl <;> first | exact Nat.le_refl _ | exact Nat.le_add_right _ _
  exact I1.fpOk hle (I1.hok.fresh hle)
theorem walk_zipW {K : PySem.W.Frag} {a b : Addr} {xs ys : List V} {n : Nat} (hn : n = min xs.length ys.length) : Walk (ItW K a b) n (fun H => SqT K H a xs ∧ SqL K H b ys) (YPair (fun i => xs[i]?) (fun i => ys[i]?)) := by
  subst hn
  refine ⟨fun i H hi ⟨q1, q2⟩ => ⟨xs, ys, xs[i]'(by omega), ys[i]'(by omega), q1, q2, List.getElem?_eq_getElem _, List.getElem?_eq_getElem _⟩, fun H ⟨q1, q2⟩ => ⟨xs, ys, q1, q2, by omega, by omega, by omega⟩, fun i H v H' _ ⟨q1, q2⟩ ⟨T, x, y, e, n, eH, f1, f2⟩ => ⟨T, x, y, e, n, eH, f1 _ q1, f2 _ q2⟩⟩
end FS

set_option Elab.async false
set_option linter.all false
set_option maxRecDepth 100000
set_option maxHeartbeats 4000000
/-! The law's own marks. -/
namespace K2
open PySem PySem.Spec PyProof.Rows L2 FS LamX
def cI (m : List Nat) : HO := .lst (m.map fun k : Nat => V.int k)
def MsAt (H : Hp) (a : Addr) (M : List (List Nat)) : Prop := ∃ ys, H a = some (.lst ys) ∧ Paired (Made cI H) M ys
theorem MsAt.mono {H H' : Hp} {a : Addr} {M : List (List Nat)} (h : MsAt H a M) (s : Same H H') : MsAt H' a M := by
  obtain ⟨ys, e, p⟩ := h
  exact ⟨ys, s _ _ e, mades p s⟩
/-- all cells are new since H0 -/
def MsN (H0 H : Hp) (a : Addr) (M : List (List Nat)) : Prop := ∃ ys, H a = some (.lst ys) ∧ Paired (fun m y => ∃ r, y = .ref r ∧ H0 r = none ∧ H r = some (cI m)) M ys
theorem MsN.at {H0 H : Hp} {a : Addr} {M : List (List Nat)} (h : MsN H0 H a M) : MsAt H a M := by
  obtain ⟨ys, e, p⟩ := h
  exact ⟨ys, e, Paired.mono (fun _ _ ⟨r, a, _, b⟩ => ⟨r, a, b⟩) p⟩
theorem MsN.since {H0 H1 H : Hp} {a : Addr} {M : List (List Nat)} (h : MsN H1 H a M) (s : Same H0 H1) : MsN H0 H a M := by
  obtain ⟨ys, e, p⟩ := h
  exact ⟨ys, e, Paired.mono (fun _ _ ⟨r, a, n, b⟩ => ⟨r, a, s.free n, b⟩) p⟩
def MadeN (F : Addr) (H0 H : Hp) (m : List Nat) (y : V) : Prop := ∃ r, y = .ref r ∧ r ≠ F ∧ H0 r = none ∧ H r = some (cI m)
theorem MadeN.step {F : Addr} {H0 H H' : Hp} {m : List Nat} {y : V} {o : HO} (h : MadeN F H0 H m y) (s : Same H H') : MadeN F H0 (upd H' F o) m y := by
  obtain ⟨r, e, n, n0, h⟩ := h
  exact ⟨r, e, n, n0, by rw [upd_ne n]; exact s _ _ h⟩
def ext (m : List Nat) : List (List Nat) := (List.range (cnt m + 1)).map fun k => m ++ [k]
theorem cnt_le : ∀ {m : List Nat} {k : Nat}, k ∈ m → k + 1 ≤ cnt m
  | a :: r, k, h => by
    show k + 1 ≤ max (a + 1) (cnt r)
    rcases List.mem_cons.mp h with rfl | h
    · omega
    · have := cnt_le h
      omega
theorem cnt_at : ∀ {m : List Nat}, m ≠ [] → ∃ k ∈ m, k + 1 = cnt m
  | [a], _ => ⟨a, by simp, by show a + 1 = max (a + 1) 0; omega⟩
  | a :: b :: r, _ => by
    obtain ⟨k, hk, e⟩ := cnt_at (m := b :: r) (by simp)
    by_cases h : a + 1 ≤ cnt (b :: r)
    · exact ⟨k, List.mem_cons_of_mem _ hk, by show k + 1 = max (a + 1) (cnt (b :: r)); omega⟩
    · exact ⟨a, by simp, by show a + 1 = max (a + 1) (cnt (b :: r)); omega⟩
theorem max_cnt {m : List Nat} {z : Int} (h : z ∈ (m.map fun k : Nat => (k : Int)) ++ [-1]) (b : ∀ y ∈ (m.map fun k : Nat => (k : Int)) ++ [-1], y ≤ z) : z = (cnt m : Int) - 1 := by
  cases m with
  | nil =>
    have : z ∈ [(-1 : Int)] := h
    have := List.mem_singleton.mp this
    rw [this]
    rfl
  | cons a r =>
    obtain ⟨k, hk, e⟩ := cnt_at (m := a :: r) (by simp)
    have h1 := b k (List.mem_append_left _ (List.mem_map.mpr ⟨k, hk, rfl⟩))
    rcases List.mem_append.mp h with h | h
    · obtain ⟨j, hj, rfl⟩ := List.mem_map.mp h
      have := cnt_le hj
      omega
    · have := List.mem_singleton.mp h
      omega
theorem s0n {H H1 : Hp} {p : Addr} (_ : Same H H1) (h : H p = none) : H p = none := h
section
variable {P : Program} {w : World} {K : PySem.W.Frag} {mg : Str → Option Value} {base : Heap}
def spLonger : Sp := fun vs H Q _ => ∃ (a : Addr) (M : List (List Nat)), vs = [.ref a] ∧ MsAt H a M ∧ (∀ m ∈ M, m.length ≤ 5 ∧ cnt m ≤ 5) ∧ (longer M).length ≤ 1000 ∧ ∀ H' D, Same H H' → MsN H H' D (longer M) → Q (.ref D) H'
theorem scLo : FnScope ["_law_found", "_law_longer_here", "_law_marks_here", "_law_mark"] ["_law_found"] (defScope TopL.sLonger) := ⟨rfl, rfl, rfl, by decide +kernel, rfl, by decide +kernel, by decide +kernel⟩
theorem ok_longer {f : Addr} {fd : FuncData} (F : Fun K "_law_longer" "_law_longer" TopL.sLonger f fd) (zr : mg "range" = none) (zM : mg "max" = none) : FnOk P w K mg base CX0 1 f fd ["_law_found"] spLonger := by
  refine F.ok scLo (fun vs H Q E h => ?_) (fun cdv A outer s H vs Q E hr h => ?_)
  · obtain ⟨a, M, rfl, _⟩ := h
    rfl
  · obtain ⟨a, M, rfl, ⟨ys, ha, pm⟩, bd, lz, q⟩ := h
    refine ⟨_, pss_cons (ps_set (i := 1) scLo.nd rfl (.inl rfl) (pe_lstS pa_nil))
      (pss_cons (ps_for PassesOwn.never rfl (pi_list (pv 0)) (pg_name (i := 2) scLo.nd rfl (Or.inl rfl))
        (pss_one (ps_for PassesOwn.never rfl (pi_range1 rfl zr (pa_cons (pe_op op_add (pe_callB (cr_max rfl) (by rfl) zM (by decide +kernel) (pa_cons (pe_op op_catS (pv 2) (pe_lstS (pa_cons (pe_un un_neg pe_int) pa_nil))) pa_nil)) pe_int) pa_nil)) (pg_name (i := 3) scLo.nd rfl (Or.inl rfl))
          (pss_one (ps_expr (pe_bm PySem.F.plainAttrs_list PySem.F.slot_list_append PySem.F.type_list_append mt_append (pv 1) (pa_cons (pe_op op_catS (pv 2) (pe_lstS (pa_cons (pv 3) pa_nil))) pa_nil)))))))
      (pss_one (ps_ret (pv 1)))), ?_⟩
    refine ⟨by simp, fun F1 H1 s1 n1 e1 => ?_⟩
    have lys : ys.length = M.length := pm.length.symm
    refine ⟨.ref a, rfl, a, rfl, ⟨_, SqL.of (s1 _ _ ha)⟩, ?_⟩
    refine for_list (xs := ys) (fun i σ H' => ∃ x2 x3 zs, σ = [some (.ref a), some (.ref F1), x2, x3] ∧ Same H H' ∧ H' F1 = some (.lst zs) ∧ Paired (MadeN F1 H H') ((M.take i).map ext).flatten zs)
      ⟨none, none, [], rfl, s1, e1, .nil⟩ (fun i σ H' _ ⟨x2, x3, zs, _, s2, _⟩ => SqL.of (s2 _ _ ha)) (fun i x σ H2 hx ⟨x2, x3, zs, eσ, s2, eF, pz⟩ => ?_) (fun σ H2 ⟨x2, x3, zs, eσ, s2, eF, pz⟩ => ?_)
    · subst eσ
      obtain ⟨m, hm, rm, rfl, em⟩ := made_at pm hx
      obtain ⟨b1, b2⟩ := bd m (List.mem_of_getElem? hm)
      have ll : (longer M).length = ((M.take i).map ext).flatten.length + ((ext m).length + ((M.drop (i + 1)).map ext).flatten.length) := by
        have := flat_at ext hm
        unfold longer
        show (M.map ext).flatten.length = _
        rw [this, List.length_append, List.length_append]
      have le : (ext m).length = cnt m + 1 := by unfold ext; rw [List.length_map, List.length_range]
      refine ⟨.ref rm, rfl, 1, rfl, by simp, fun p1 H3 s3 n3 e3 => ⟨rm, p1, _, _, rfl, rfl, s3 _ _ (s2 _ _ em), e3, by rw [List.length_map]; show _ + 1 ≤ 1000; omega, fun p2 H4 s4 n4 e4 => ?_⟩⟩
      have S4 : Same H2 H4 := s3.trans s4
      have er : (m.map fun k : Nat => V.int k) ++ [V.int (-1)] = ((m.map fun k : Nat => (k : Int)) ++ [-1]).map V.int := by
        rw [List.map_append, List.map_map]
        rfl
      rw [er] at e4
      refine ⟨p2, _, rfl, SqL.of e4, by simp, fun z hz hb => ?_⟩
      have ez := max_cnt hz hb
      subst ez
      refine ⟨_, _, rfl, rfl, ((cnt m + 1 : Nat) : Int), ?_, by omega, by omega, ?_⟩
      · show [V.int ((cnt m : Int) - 1 + 2)] = _
        congr 2
        omega
      refine for_range (lo := 0) (n := cnt m + 1) (fun k σ H' => ∃ x3 zs, σ = [some (.ref a), some (.ref F1), some (.ref rm), x3] ∧ Same H H' ∧ H' F1 = some (.lst zs) ∧ Paired (MadeN F1 H H') (((M.take i).map ext).flatten ++ (ext m).take k) zs)
        ⟨x3, zs, rfl, s2.trans S4, S4 _ _ eF, by rw [List.take_zero, List.append_nil]; exact Paired.mono (fun _ _ ⟨r, e, n, n0, h⟩ => ⟨r, e, n, n0, S4 _ _ h⟩) pz⟩ (fun k σ H5 hk ⟨x3, zs5, eσ, s5, eF5, pz5⟩ => ?_) (fun σ H5 ⟨x3, zs5, eσ, s5, eF5, pz5⟩ => ?_)
      · subst eσ
        refine ⟨.ref F1, rfl, .inl ⟨rfl, _, SqL.of eF5⟩, .ref rm, rfl, .int (0 + (k : Int)), rfl, by simp, fun p6 H6 s6 n6 e6 => ⟨rm, p6, _, _, rfl, rfl, s6 _ _ (s5 _ _ em), e6, by rw [List.length_map]; show _ + 1 ≤ 1000; omega, fun p7 H7 s7 n7 e7 => ?_⟩⟩
        have S7 : Same H5 H7 := s6.trans s7
        have n7F : p7 ≠ F1 := fun z => by rw [z, s6 _ _ eF5] at n7; cases n7
        refine ⟨F1, zs5, _, rfl, rfl, S7 _ _ eF5, ?_, some (.int (0 + (k : Int))), zs5 ++ [.ref p7], rfl, ?_, upd_same, ?_⟩
        · rw [← pz5.length, List.length_append, List.length_take]
          exact small1000 (by omega)
        · intro b o eb
          rw [upd_ne (ne_of_none eb (s0n s1 n1))]
          exact (s5.trans S7) _ _ eb
        · have ek : (ext m)[k]? = some (m ++ [k]) := by
            unfold ext
            rw [List.getElem?_map, List.getElem?_range hk]
            rfl
          rw [List.take_add_one, ek, ← List.append_assoc]
          refine Paired.snoc (Paired.mono (fun _ _ h => MadeN.step h S7) pz5) ⟨p7, rfl, n7F, (s5.trans s6).free n7, ?_⟩
          rw [upd_ne n7F, e7, cI, List.map_append]
          show some (HO.lst (_ ++ [V.int (0 + (k : Int))])) = _
          rw [Int.zero_add]
          rfl
      · subst eσ
        rw [← le, List.take_length] at pz5
        refine ⟨some (.ref rm), x3, zs5, rfl, s5, eF5, ?_⟩
        rw [List.take_add_one, hm, List.map_append, List.flatten_append]
        have e8 : ((Option.toList (some m)).map ext).flatten = ext m := by
          show ext m ++ [] = _
          rw [List.append_nil]
        rw [e8]
        exact pz5
    · subst eσ
      rw [lys, List.take_length] at pz
      exact ⟨.ref F1, rfl, q H2 F1 s2 ⟨zs, eF, Paired.mono (fun _ _ ⟨r, e, _, n0, h⟩ => ⟨r, e, n0, h⟩) pz⟩⟩
end
end K2

set_option Elab.async false
set_option linter.all false
set_option maxRecDepth 100000
set_option maxHeartbeats 8000000
/-! The law's own partitions. -/
namespace K2
open PySem PySem.Spec PyProof.Rows L2 FS LamX
theorem marks_ok : ∀ n : Nat, n < 6 → (marks n).length ≤ 52 ∧ ((marks n).all fun m => decide (m.length ≤ 5) && decide (cnt m ≤ 5)) = true := by decide +kernel
theorem marks_bd {n : Nat} (h : n ≤ 5) : (marks n).length ≤ 52 ∧ ∀ m ∈ marks n, m.length ≤ 5 ∧ cnt m ≤ 5 := by
  obtain ⟨h1, h2⟩ := marks_ok n (by omega)
  refine ⟨h1, fun m hm => ?_⟩
  have h3 := List.all_eq_true.mp h2 m hm
  rw [Bool.and_eq_true] at h3
  exact ⟨of_decide_eq_true h3.1, of_decide_eq_true h3.2⟩
theorem marks_len : ∀ n : Nat, n < 6 → ((marks n).all fun m => decide (m.length = n)) = true := by decide +kernel
section
variable {X : Cx}
def rTupN (K : PySem.W.Frag) : List V → Hp → VK → Prop := fun xs H Q => ∃ p ys, xs = [.ref p] ∧ SqL K H p ys ∧ ∀ l H', Same H H' → H l = none → H' l = some (.tup ys) → Q (.ref l) H'
theorem call_tupN : CallR X (.type "tuple") (rTupN X.K) := fun pins s σ H xs us Q I r ⟨p, ys, e, h, q⟩ =>
  call_tuple_of pins s σ H xs us Q I r ⟨p, ys, e, .inl ⟨h, fun l nl => q l _ (same_new nl) nl upd_same⟩⟩
end
/-- how many parts, and the parts -/
def PairAt (H : Hp) (p : List (List Str)) (v : V) : Prop := ∃ r tp ys, v = .ref r ∧ H r = some (.tup [.int (p.length : Nat), .ref tp]) ∧ H tp = some (.tup ys) ∧ Paired (Made cT H) p ys
theorem PairAt.mono {H H' : Hp} {p : List (List Str)} {v : V} (h : PairAt H p v) (s : Same H H') : PairAt H' p v := by
  obtain ⟨r, tp, ys, e, h1, h2, m⟩ := h
  exact ⟨r, tp, ys, e, s _ _ h1, s _ _ h2, mades m s⟩
theorem PairAt.upd {H : Hp} {D : Addr} {xs zs : List V} (hD : H D = some (.lst xs)) {p : List (List Str)} {v : V} (h : PairAt H p v) : PairAt (upd H D (.lst zs)) p v := by
  obtain ⟨r, tp, ys, e, h1, h2, m⟩ := h
  refine ⟨r, tp, ys, e, ?_, ?_, Paired.mono (fun _ _ m => made_upd hD m) m⟩
  · rw [upd_ne (fun z => by rw [z, hD] at h1; cases h1)]
    exact h1
  · rw [upd_ne (fun z => by rw [z, hD] at h2; cases h2)]
    exact h2
theorem PairAt.dp {K : PySem.W.Frag} {H : Hp} {p : List (List Str)} {v : V} (h : PairAt H p v) : Dp K H v (keyPs p) := by
  obtain ⟨r, tp, ys, e, h1, h2, m⟩ := h
  subst e
  exact .tup (.inl (.inl h1)) (.cons (.int _) (.cons (.tup (.inl (.inl h2)) (dp_mades m)) .nil))
theorem reps_pairs {K : PySem.W.Frag} {H : Hp} : ∀ {ps : List (List (List Str))} {vs : List V}, Paired (PairAt H) ps vs → Reps K keyPs H vs ps
  | _, _, .nil => .nil
  | _, _, .cons a t => .cons a.dp (reps_pairs t)
theorem sqt_upd {K : PySem.W.Frag} {H : Hp} {D b : Addr} {xs zs ws : List V} (hD : H D = some (.lst ws)) (h : SqT K H b xs) : SqT K (upd H D (.lst zs)) b xs := by
  rcases h with (h | ⟨o, h⟩) | h
  · exact .inl (.inl (by rw [upd_ne (fun z => by rw [z, hD] at h; cases h)]; exact h))
  · exact .inl (.inr ⟨o, by rw [upd_ne (fun z => by rw [z, hD] at h; cases h)]; exact h⟩)
  · exact .inr h
theorem strs_any {K : PySem.W.Frag} {H H' : Hp} : ∀ (g : List Str) (vs : List V), DpAll K H vs (g.map .str) → DpAll K H' vs (g.map .str)
  | [], _, h => by cases h; exact .nil
  | x :: r, _, h => by
    have h : DpAll K H _ (.str x :: r.map .str) := h
    cases h with
    | cons h1 h2 =>
      cases h1
      exact .cons (.str x) (strs_any r _ h2)
theorem groups_any {K : PySem.W.Frag} {H H' : Hp} (k : ∀ b xs, SqT K H b xs → SqT K H' b xs) : ∀ (b : List (List Str)) (vs : List V), DpAll K H vs (b.map fun g => PyData.tuple (g.map .str)) → DpAll K H' vs (b.map fun g => PyData.tuple (g.map .str))
  | [], _, h => by cases h; exact .nil
  | g :: r, _, h => by
    have h : DpAll K H _ (PyData.tuple (g.map .str) :: r.map fun g => PyData.tuple (g.map .str)) := h
    cases h with
    | cons h1 h2 =>
      cases h1 with
      | tup h3 h4 => exact .cons (.tup (k _ _ h3) (strs_any g _ h4)) (groups_any k r _ h2)
theorem dPs_any {K : PySem.W.Frag} {H H' : Hp} (k : ∀ b xs, SqT K H b xs → SqT K H' b xs) {b : List (List Str)} {v : V} (h : Dp K H v (dPs b)) : Dp K H' v (dPs b) := by
  unfold dPs at h ⊢
  cases h with
  | tup h3 h4 => exact .tup (k _ _ h3) (groups_any k b _ h4)
theorem reps_any {K : PySem.W.Frag} {H H' : Hp} (k : ∀ b xs, SqT K H b xs → SqT K H' b xs) : ∀ {vs : List V} {bs : List (List (List Str))}, Reps K dPs H vs bs → Reps K dPs H' vs bs
  | _, _, .nil => .nil
  | _, _, .cons a t => .cons (dPs_any k a) (reps_any k t)
section
variable {P : Program} {w : World} {K : PySem.W.Frag} {mg : Str → Option Value} {base : Heap}
def spMarks : Sp := fun vs H Q _ => ∃ n : Nat, vs = [.int n] ∧ n ≤ 5 ∧ ∀ H' D, Same H H' → MsN H H' D (marks n) → Q (.ref D) H'
theorem scMa : FnScope ["_law_many", "_law_found", "_law_turn"] ["_law_many"] (defScope TopL.sMarks) := ⟨rfl, rfl, rfl, by decide +kernel, rfl, by decide +kernel, by decide +kernel⟩
theorem ok_marks {f fL : Addr} {fd fdL : FuncData} (F : Fun K "_law_marks" "_law_marks" TopL.sMarks f fd) (zr : mg "range" = none)
    (GL : FnOk P w K mg base CX0 1 fL fdL ["_law_found"] spLonger) (bL : Binds K fdL ["_law_found"] []) (gL : mg "_law_longer" = some (.ref fL)) (kL : PySem.W.keepIn K (.ref fL) = true) : FnOk P w K mg base CX0 2 f fd ["_law_many"] spMarks := by
  refine F.ok scMa (fun vs H Q E h => ?_) (fun cdv A outer s H vs Q E hr h => ?_)
  · obtain ⟨n, rfl, _⟩ := h
    rfl
  · obtain ⟨n, rfl, hn, q⟩ := h
    refine ⟨_, pss_cons (ps_set (i := 1) scMa.nd rfl (.inl rfl) (pe_lstS (pa_cons (pe_lstS pa_nil) pa_nil)))
      (pss_cons (ps_for PassesOwn.never rfl (pi_range1 rfl zr (pa_cons (pv 0) pa_nil)) (pg_name (i := 2) scMa.nd rfl (Or.inl rfl))
        (pss_one (ps_set (i := 1) scMa.nd rfl (.inl rfl) (pe_call GL hr rfl gL kL bL .nil pass0 (pa_cons (pv 1) pa_nil)))))
      (pss_one (ps_ret (pv 1)))), ?_⟩
    refine ⟨by simp, fun p1 H1 s1 n1 e1 => ⟨by simp, fun p2 H2 s2 n2 e2 => ?_⟩⟩
    refine ⟨.int n, rfl, (n : Int), rfl, by omega, by omega, ?_⟩
    refine for_range (lo := 0) (n := n) (fun i σ H' => ∃ D x2, σ = [some (.int n), some (.ref D), x2] ∧ Same H H' ∧ MsN H H' D (marks i)) ⟨p2, none, rfl, s1.trans s2, [.ref p1], e2, .cons ⟨p1, rfl, n1, s2 _ _ e1⟩ .nil⟩
      (fun i σ H3 hi ⟨D, x2, eσ, s3, ms⟩ => ?_) (fun σ H3 ⟨D, x2, eσ, s3, ms⟩ => ?_)
    · subst eσ
      have hb := marks_bd (n := i) (by omega)
      have hb2 := marks_bd (n := i + 1) (by omega)
      exact ⟨.ref D, rfl, D, marks i, rfl, ms.at, hb.2, by have := hb2.1; unfold marks at this; omega, fun H4 D4 s4 m4 => ⟨D4, _, rfl, s3.trans s4, m4.since s3⟩⟩
    · subst eσ
      exact ⟨.ref D, rfl, q H3 D s3 ms⟩
end
end K2

set_option Elab.async false
set_option linter.all false
set_option maxRecDepth 100000
set_option maxHeartbeats 8000000
/-! The law's own partitions, sorted. -/
namespace K2
open PySem PySem.Spec PyProof.Rows L2 FS LamX
def grp (ns : List Str) (m : List Nat) (j : Nat) : List Str := ((ns.zip m).filter fun z => z.2 == j).map (·.1)
theorem key_open {K : PySem.W.Frag} {H : Hp} {b : List (List Str)} {v : V} (h : Dp K H v (keyPs b)) : ∃ r v2, v = .ref r ∧ SqT K H r [.int (b.length : Nat), v2] ∧ Dp K H v2 (dPs b) := by
  unfold keyPs at h
  cases h with
  | tup h1 h2 =>
    cases h2 with
    | cons a t =>
      cases a
      cases t with
      | cons c t =>
        cases t
        exact ⟨_, _, rfl, h1, c⟩
theorem parts_grp (ns : List Str) (m : List Nat) : partsOf ns m = (List.range (cnt m)).map (grp ns m) := rfl
section
variable {P : Program} {w : World} {K : PySem.W.Frag} {mg : Str → Option Value} {base : Heap}
def spDue (K : PySem.W.Frag) : Sp := fun vs H Q _ => ∃ (a : Addr) (ns : List Str), vs = [.ref a] ∧ SqT K H a (ns.map V.str) ∧ ns.length ≤ 5 ∧
  ∀ H' D zs, Same H H' → H' D = some (.lst zs) → Reps K dPs H' zs (((marks ns.length).map (partsOf ns)).mergeSort (PySem.W.dataLe false keyPs)) → Q (.ref D) H'
abbrev NDu : List Str := ["_law_names", "_law_found", "_law_marks_here", "_law_parts", "_law_mark", "_law_name", "_law_one", "_law_many"]
theorem scDu : FnScope NDu ["_law_names"] (defScope TopL.sDue) := ⟨rfl, rfl, rfl, by decide +kernel, rfl, by decide +kernel, by decide +kernel⟩
theorem ok_due {f fM : Addr} {fd fdM : FuncData} (F : Fun K "_law_due" "_law_due" TopL.sDue f fd) (zr : mg "range" = none) (zM : mg "max" = none) (zn : mg "len" = none) (zt : mg "tuple" = none) (zz : mg "zip" = none) (zo : mg "sorted" = none)
    (GM : FnOk P w K mg base CX0 2 fM fdM ["_law_many"] spMarks) (bM : Binds K fdM ["_law_many"] []) (gM : mg "_law_marks" = some (.ref fM)) (kM : PySem.W.keepIn K (.ref fM) = true) : FnOk P w K mg base CX0 3 f fd ["_law_names"] (spDue K) := by
  refine F.ok scDu (fun vs H Q E h => ?_) (fun cdv A outer s H vs Q E hr h => ?_)
  · obtain ⟨a, ns, rfl, _⟩ := h
    rfl
  · obtain ⟨a, ns, rfl, ha, hn, q⟩ := h
    refine ⟨_, pss_cons (ps_set (i := 1) scDu.nd rfl (.inl rfl) (pe_lstS pa_nil))
      (pss_cons (ps_for PassesOwn.never rfl (pi_list (pe_call GM hr rfl gM kM bM .nil pass0 (pa_cons (pe_callB (id := "len") (r := rLenQ K) call_len_seq (by rfl) zn PySem.boot_len (pa_cons (pv 0) pa_nil)) pa_nil))) (pg_name (i := 2) scDu.nd rfl (Or.inl rfl))
        (pss_cons (ps_set (i := 3) scDu.nd rfl (.inl rfl) (pe_lstS pa_nil))
        (pss_cons (ps_for PassesOwn.never rfl (pi_range1 rfl zr (pa_cons (pe_op op_add (pe_callB (cr_max rfl) (by rfl) zM (by decide +kernel) (pa_cons (pe_op op_catS (pv 2) (pe_lstS (pa_cons (pe_un un_neg pe_int) pa_nil))) pa_nil)) pe_int) pa_nil)) (pg_name (i := 4) scDu.nd rfl (Or.inr rfl))
          (pss_one (ps_expr (pe_bm PySem.F.plainAttrs_list PySem.F.slot_list_append PySem.F.type_list_append mt_append (pv 3) (pa_cons (pe_callTy (r := rTupN K) call_tupN (by rfl) zt (by decide +kernel) (pa_cons
            (pe_lc (own := [("_law_name", 5), ("_law_one", 6)]) (g := gTup K 2 (gCons (gName 5) (gCons (gName 6) gNil))) rfl scDu.nd (pi_zipW (by rfl) zz (pa_cons (pv 0) (pa_cons (pv 2) pa_nil))) (blkOk_by (N := NDu) (sc := defScope TopL.sDue) (by decide +kernel))
              (fun _ _ _ _ _ => pg_tup rfl (pgs_cons (pg_name (i := 5) scDu.nd rfl (Or.inl rfl)) (pgs_cons (pg_name (i := 6) scDu.nd rfl (Or.inl rfl)) pgs_nil))) (fun _ _ _ _ _ => pts_one (pt_cmpR op_eq (pv 6) (pv 4) (nomark _))) (fun _ _ _ _ _ => pv 5)) pa_nil)) pa_nil)))))
        (pss_one (ps_expr (pe_bm PySem.F.plainAttrs_list PySem.F.slot_list_append PySem.F.type_list_append mt_append (pv 1) (pa_cons (pe_tupS (pa_cons (pe_callB (id := "len") (r := rLenQ K) call_len_seq (by rfl) zn PySem.boot_len (pa_cons (pv 3) pa_nil)) (pa_cons (pe_callTy (r := rTupN K) call_tupN (by rfl) zt (by decide +kernel) (pa_cons (pv 3) pa_nil)) pa_nil))) pa_nil)))))))
      (pss_one (ps_ret (pe_lc (own := [("_law_many", 7), ("_law_parts", 3)]) (g := gTup K 2 (gCons (gName 7) (gCons (gName 3) gNil))) (tt := tYes) rfl scDu.nd (pi_list (pe_callB (id := "sorted") (r := rSortD K keyPs) (cr_sortD hr.units keyPs) (by rfl) zo (by decide +kernel) (pa_cons (pv 1) pa_nil))) (blkOk_by (N := NDu) (sc := defScope TopL.sDue) (by decide +kernel))
          (fun _ _ _ _ _ => pg_tup rfl (pgs_cons (pg_name (i := 7) scDu.nd rfl (Or.inl rfl)) (pgs_cons (pg_name (i := 3) scDu.nd rfl (Or.inl rfl)) pgs_nil))) (fun _ _ _ _ _ => pts_nil) (fun _ _ _ _ _ => pv 3))))), ?_⟩
    obtain ⟨mb1, mb2⟩ := marks_bd hn
    refine ⟨by simp, fun F1 H1 s1 n1 e1 => ?_⟩
    refine ⟨.ref a, rfl, a, ns.map V.str, rfl, .inr (same_tup s1 ha), ns.length, by show [V.int ((ns.map V.str).length : Nat)] = _; rw [List.length_map], hn, fun H2 M1 s2 ms => ⟨M1, rfl, ?_⟩⟩
    obtain ⟨ys, eM, pm⟩ := ms
    have lys : ys.length = (marks ns.length).length := pm.length.symm
    have s12 := s1.trans s2
    refine ⟨⟨ys, SqL.of eM⟩, ?_⟩
    refine for_list (xs := ys) (fun i σ H' => ∃ x2 x3 x4 x5 x6 x7 zs, σ = [some (.ref a), some (.ref F1), x2, x3, x4, x5, x6, x7] ∧ Same H H' ∧ H' M1 = some (.lst ys) ∧ Paired (fun m y => ∃ r, y = .ref r ∧ r ≠ F1 ∧ H' r = some (cI m)) (marks ns.length) ys ∧ H' F1 = some (.lst zs) ∧ Paired (PairAt H') (((marks ns.length).take i).map (partsOf ns)) zs)
      ⟨none, none, none, none, none, none, [], rfl, s12, eM, Paired.mono (fun _ _ ⟨r, a, n, b⟩ => ⟨r, a, (fun z => by rw [z, e1] at n; cases n), b⟩) pm, s2 _ _ e1, .nil⟩ (fun i σ H' _ ⟨_, _, _, _, _, _, _, _, _, e, _⟩ => SqL.of e) (fun i x σ H3 hx ⟨x2, x3, x4, x5, x6, x7, zs, eσ, s3, eM3, pm3, eF3, pz3⟩ => ?_) (fun σ H3 ⟨x2, x3, x4, x5, x6, x7, zs, eσ, s3, eM3, pm3, eF3, pz3⟩ => ?_)
    · subst eσ
      obtain ⟨m, hm, rm, rfl, rF, em⟩ := pr_get pm3 hx
      obtain ⟨b1, b2⟩ := mb2 m (List.mem_of_getElem? hm)
      refine ⟨by simp, fun Pp H4 s4 n4 e4 => ?_⟩
      refine ⟨.ref rm, rfl, 1, rfl, by simp, fun p1 H5 s5 n5 e5 => ⟨rm, p1, _, _, rfl, rfl, s5 _ _ (s4 _ _ em), e5, by rw [List.length_map]; show _ + 1 ≤ 1000; omega, fun p2 H6 s6 n6 e6 => ?_⟩⟩
      have er : (m.map fun k : Nat => V.int k) ++ [V.int (-1)] = ((m.map fun k : Nat => (k : Int)) ++ [-1]).map V.int := by
        rw [List.map_append, List.map_map]
        rfl
      rw [er] at e6
      refine ⟨p2, _, rfl, SqL.of e6, by simp, fun z hz hb => ?_⟩
      have ez := max_cnt hz hb
      subst ez
      refine ⟨_, _, rfl, rfl, ((cnt m : Nat) : Int), ?_, by omega, by omega, ?_⟩
      · show [V.int ((cnt m : Int) - 1 + 1)] = _
        congr 2
        omega
      have S6 : Same H3 H6 := s4.trans (s5.trans s6)
      have PF : Pp ≠ F1 := fun z => by rw [z, eF3] at n4; cases n4
      have PM : Pp ≠ M1 := fun z => by rw [z, eM3] at n4; cases n4
      have n3P : H3 Pp = none := n4
      refine for_range (lo := 0) (n := cnt m) (fun k σ H' => ∃ x4 x5 x6 x7 ws, σ = [some (.ref a), some (.ref F1), some (.ref rm), some (.ref Pp), x4, x5, x6, x7] ∧ Same H3 H' ∧ H' Pp = some (.lst ws) ∧ Paired (Made cT H') ((List.range k).map (grp ns m)) ws)
        ⟨x4, x5, x6, x7, [], rfl, S6, (s5.trans s6) _ _ e4, .nil⟩ (fun k σ H7 hk ⟨x4, x5, x6, x7, ws, eσ, s7, eP7, pw⟩ => ?_) (fun σ H7 ⟨x4, x5, x6, x7, ws, eσ, s7, eP7, pw⟩ => ?_)
      · subst eσ
        have lw : ws.length = k := by rw [← pw.length, List.length_map, List.length_range]
        refine ⟨.ref Pp, rfl, .inl ⟨rfl, _, SqL.of eP7⟩, .ref a, rfl, .ref rm, rfl, a, rm, ns.map V.str, m.map fun k : Nat => V.int k, rfl, same_tup (s3.trans s7) ha, SqL.of (s7 _ _ em), fun D hD => ?_⟩
        refine lc_it (walk_zipW (xs := ns.map V.str) (ys := m.map fun k : Nat => V.int k) rfl) (fun i H' => Same H7 H' ∧ H' D = some (.lst ((((ns.zip m).take i).filter fun z => z.2 == k).map fun z => V.str z.1))) ⟨same_new hD, upd_same⟩ (fun i H' _ h => ⟨same_tup ((s3.trans s7).trans h.1) ha, SqL.of (h.1 _ _ (s7 _ _ em))⟩) (fun i v H8 H9 hi ⟨s8, e8⟩ ⟨T1, x, y, ev, nT, eH, hx1, hy1⟩ => ?_) (fun H8 ⟨s8, e8⟩ => ?_)
        · subst ev
          subst eH
          rw [List.length_map, List.length_map] at hi
          have hi1 : i < ns.length := by omega
          have hi2 : i < m.length := by omega
          have hx2 : x = .str (ns[i]'hi1) := by
            have hx1 : (ns.map V.str)[i]? = some x := hx1
            rw [List.getElem?_map, List.getElem?_eq_getElem hi1] at hx1
            exact (Option.some.inj hx1).symm
          have hy2 : y = .int ((m[i]'hi2 : Nat) : Int) := by
            have hy1 : (m.map fun k : Nat => V.int k)[i]? = some y := hy1
            rw [List.getElem?_map, List.getElem?_eq_getElem hi2] at hy1
            exact (Option.some.inj hy1).symm
          subst hx2 hy2
          have hz : (ns.zip m)[i]? = some (ns[i]'hi1, m[i]'hi2) := by
            rw [List.getElem?_zip_eq_some]
            exact ⟨List.getElem?_eq_getElem hi1, List.getElem?_eq_getElem hi2⟩
          have nTD : D ≠ T1 := ne_of_none e8 nT
          have e9 : upd H8 T1 (.tup [.str (ns[i]'hi1), .int ((m[i]'hi2 : Nat) : Int)]) D = _ := (upd_ne nTD).trans e8
          refine ⟨T1, [.str (ns[i]'hi1), .int ((m[i]'hi2 : Nat) : Int)], rfl, .inl (.inl upd_same), rfl, _, [.int ((m[i]'hi2 : Nat) : Int)], rfl, _, [], rfl, rfl, rfl, ?_⟩
          refine ⟨.int ((m[i]'hi2 : Nat) : Int), rfl, .int (0 + (k : Int)), rfl, rfl, _, rfl, ite2 (fun hc => ?_) (fun hc => ?_)⟩
          · have ek : m[i]'hi2 = k := by
              have h1 := of_decide_eq_true hc
              have h2 : ((m[i]'hi2 : Nat) : Int) = 0 + (k : Int) := by injection h1
              omega
            refine ⟨.str (ns[i]'hi1), rfl, _, e9, ?_, fun b o eb => ?_, ?_⟩
            · rw [List.length_map]
              refine small1000 (Nat.le_trans (List.length_filter_le _ _) ?_)
              rw [List.length_take]
              omega
            · rw [upd_ne (ne_of_none eb hD)]
              exact (same_new nT) _ _ (s8 _ _ eb)
            · rw [upd_same, List.take_add_one, hz, List.filter_append, List.map_append]
              have : ((Option.toList (some (ns[i]'hi1, m[i]'hi2))).filter fun z => z.2 == k) = [(ns[i]'hi1, m[i]'hi2)] := by
                simp [Option.toList, ek]
              rw [this]
              rfl
          · have ek : m[i]'hi2 ≠ k := fun e => hc (decide_eq_true (by rw [e, Int.zero_add]))
            refine ⟨s8.trans (same_new nT), ?_⟩
            rw [e9, List.take_add_one, hz, List.filter_append, List.map_append]
            have : ((Option.toList (some (ns[i]'hi1, m[i]'hi2))).filter fun z => z.2 == k) = [] := by
              simp [Option.toList, ek]
            rw [this]
            simp
        · have e10 : H8 D = some (.lst ((grp ns m k).map V.str)) := by
            rw [e8, List.take_of_length_le (by rw [List.length_zip, List.length_map, List.length_map]; exact Nat.le_refl _)]
            unfold grp
            rw [List.map_map]
            rfl
          refine ⟨D, _, rfl, SqL.of e10, fun t H9 s9 n9 e9 => ?_⟩
          have s79 := s8.trans s9
          have eP9 := s79 _ _ eP7
          refine ⟨Pp, ws, _, rfl, rfl, eP9, by rw [lw]; exact small1000 (by omega), some (.int (0 + (k : Int))), x5, x6, x7, ws ++ [.ref t], rfl, fun b o eb => ?_, upd_same, ?_⟩
          · rw [upd_ne (ne_of_none eb n3P)]
            exact (s7.trans s79) _ _ eb
          · rw [List.range_succ, List.map_append]
            exact Paired.mono (fun _ _ mm => made_upd eP9 mm) (Paired.snoc (mades pw s79) ⟨t, rfl, e9⟩)
      · subst eσ
        rw [← parts_grp] at pw
        have lw : ws.length = cnt m := by rw [← pw.length, parts_grp, List.length_map, List.length_range]
        refine ⟨.ref F1, rfl, .inl ⟨rfl, _, SqL.of (s7 _ _ eF3)⟩, .ref Pp, rfl, Pp, ws, rfl, .inl (SqL.of eP7), .ref Pp, rfl, Pp, ws, rfl, SqL.of eP7, fun t H8 s8 n8 e8 => ⟨by simp, fun r H9 s9 n9 e9 => ?_⟩⟩
        have s79 := s8.trans s9
        have eF9 := s79 _ _ (s7 _ _ eF3)
        have lz : zs.length = i := by
          rw [← pz3.length, List.length_map, List.length_take]
          have := (List.getElem?_eq_some_iff.mp hm).1
          omega
        have hi : i < ys.length := (List.getElem?_eq_some_iff.mp hx).1
        have FM : M1 ≠ F1 := fun z => by
          rw [z, eF3] at eM3
          have e1 : zs = ys := by injection (Option.some.inj eM3)
          rw [e1] at lz
          omega
        refine ⟨F1, zs, _, rfl, rfl, eF9, by rw [lz]; exact small1000 (by omega), some (.ref rm), some (.ref Pp), x4, x5, x6, x7, zs ++ [.ref r], rfl, fun b o eb => ?_, ?_, ?_, upd_same, ?_⟩
        · rw [upd_ne (ne_of_none eb n1)]
          exact ((s3.trans s7).trans s79) _ _ eb
        · rw [upd_ne FM]
          exact s79 _ _ (s7 _ _ eM3)
        · exact Paired.mono (fun _ _ ⟨r, a, n, b⟩ => ⟨r, a, n, by rw [upd_ne n]; exact s79 _ _ (s7 _ _ b)⟩) pm3
        · rw [List.take_add_one, hm, List.map_append]
          refine Paired.mono (fun _ _ mm => mm.upd eF9) (Paired.snoc (Paired.mono (fun _ _ mm => mm.mono (s7.trans s79)) pz3) ⟨r, t, ws, rfl, ?_, s9 _ _ e8, mades pw s79⟩)
          rw [e9, lw, parts_grp, List.length_map, List.length_range]
    · subst eσ
      rw [lys, List.take_length] at pz3
      generalize hL : (marks ns.length).map (partsOf ns) = L at *
      have lL : L.length ≤ 52 := by rw [← hL, List.length_map]; exact mb1
      refine ⟨.ref F1, rfl, F1, zs, L, rfl, SqL.of eF3, reps_pairs pz3, PySem.W.AllAlike.of fun b b' => alike_key b b', PySem.W.Sortable.tuples fun b => ⟨_, _, rfl⟩, by omega, fun b _ => Nat.le_trans (depth_key b) (by decide), fun D1 H4 ys4 s4 n4 e4 r4 => ⟨D1, rfl, ⟨ys4, SqL.of e4⟩, fun D hD => ?_⟩⟩
      generalize hLs : L.mergeSort (PySem.W.dataLe false keyPs) = Ls at *
      have l4 := r4.len
      have lLs : Ls.length ≤ 52 := by rw [← hLs, List.length_mergeSort]; exact lL
      refine lc_list (xs := ys4) (fun i H' => Same H4 H' ∧ ∃ vs, H' D = some (.lst vs) ∧ Reps K dPs H' vs (Ls.take i)) ⟨same_new hD, [], upd_same, .nil⟩ (fun i H' _ h => SqL.of (h.1 _ _ e4)) (fun i x H5 hx ⟨s5, vs, eD, rv⟩ => ?_) (fun H5 ⟨s5, vs, eD, rv⟩ => ?_)
      · obtain ⟨b, hb, db⟩ := r4.get hx
        obtain ⟨r, v2, rfl, hr2, d2⟩ := key_open db
        have hi : i < ys4.length := (List.getElem?_eq_some_iff.mp hx).1
        refine ⟨r, [.int (b.length : Nat), v2], rfl, same_tup s5 hr2, rfl, _, [v2], rfl, _, [], rfl, rfl, rfl, ?_⟩
        refine ⟨v2, rfl, vs, eD, ?_, fun c o ec => ?_, vs ++ [v2], upd_same, ?_⟩
        · rw [rv.len, List.length_take]
          exact small1000 (by omega)
        · rw [upd_ne (ne_of_none ec hD)]
          exact s5 _ _ ec
        · rw [List.take_add_one, hb]
          exact (reps_any (fun _ _ h => sqt_upd eD h) rv).snoc (dPs_any (fun _ _ h => sqt_upd eD h) (Dp_mono s5 _ _ d2))
      · rw [l4, List.take_length] at rv
        exact q H5 D vs (s3.trans (s4.trans s5)) eD rv
end
end K2

set_option Elab.async false
set_option linter.all false
set_option maxRecDepth 100000
set_option maxHeartbeats 8000000
/-! The law: what its values are. -/
namespace K2
open PySem PySem.Spec PyProof.Rows L2 FS LamX
theorem grow_mem {N : List Str} {F : List (List (List Str))} {x : Str} (hF : ∀ p ∈ F, ∀ g ∈ p, ∀ z ∈ g, z ∈ N) (hx : x ∈ N) : ∀ p ∈ grow F x, ∀ g ∈ p, ∀ z ∈ g, z ∈ N := by
  intro p hp g hg z hz
  obtain ⟨L, hL, hp⟩ := List.mem_flatten.mp hp
  obtain ⟨p0, h0, rfl⟩ := List.mem_map.mp hL
  have old := hF p0 h0
  unfold withName at hp
  rcases List.mem_append.mp hp with hp | hp
  · obtain ⟨i, _, rfl⟩ := List.mem_map.mp hp
    rcases List.mem_append.mp hg with hg | hg
    · rcases List.mem_append.mp hg with hg | hg
      · exact old g (List.mem_of_mem_take hg) z hz
      · have e := List.mem_singleton.mp hg
        subst e
        rcases List.mem_append.mp hz with hz | hz
        · rw [List.getD_eq_getElem?_getD] at hz
          cases hq : p0[i]? with
          | none => rw [hq] at hz; cases hz
          | some g0 => rw [hq] at hz; exact old g0 (List.mem_of_getElem? hq) z hz
        · rw [List.mem_singleton.mp hz]
          exact hx
    · exact old g (List.mem_of_mem_drop hg) z hz
  · have e := List.mem_singleton.mp hp
    subst e
    rcases List.mem_append.mp hg with hg | hg
    · exact old g hg z hz
    · rw [List.mem_singleton.mp hg] at hz
      rw [List.mem_singleton.mp hz]
      exact hx
theorem fold_mem {N : List Str} : ∀ (ns : List Str) (F : List (List (List Str))), (∀ p ∈ F, ∀ g ∈ p, ∀ z ∈ g, z ∈ N) → (∀ x ∈ ns, x ∈ N) → ∀ p ∈ ns.foldl grow F, ∀ g ∈ p, ∀ z ∈ g, z ∈ N
  | [], F, h, _ => h
  | x :: r, F, h, hn => fold_mem r (grow F x) (grow_mem h (hn x (List.mem_cons_self ..))) fun y hy => hn y (List.mem_cons_of_mem _ hy)
theorem made_mem {ns : List Str} : ∀ p ∈ made ns, ∀ g ∈ p, ∀ z ∈ g, z ∈ ns := fold_mem ns [[]] (fun p hp g hg => by rw [List.mem_singleton.mp hp] at hg; cases hg) fun _ h => h
theorem eqv_strs : ∀ g : List Str, PyData.eqvAll (g.map PyData.str) (g.map PyData.str) = true
  | [] => by simp [PyData.eqvAll]
  | x :: r => by
    have := eqv_strs r
    simp [PyData.eqvAll, PyData.eqv, this]
theorem eqv_groups : ∀ b : List (List Str), PyData.eqvAll (b.map fun g => PyData.tuple (g.map .str)) (b.map fun g => PyData.tuple (g.map .str)) = true
  | [] => by simp [PyData.eqvAll]
  | g :: r => by
    have := eqv_groups r
    simp [PyData.eqvAll, PyData.eqv, eqv_strs, this]
theorem eqv_parts : ∀ L : List (List (List Str)), PyData.eqvAll (L.map dPs) (L.map dPs) = true
  | [] => by simp [PyData.eqvAll]
  | b :: r => by
    have := eqv_parts r
    simp [PyData.eqvAll, dPs, PyData.eqv, eqv_groups, this]
theorem lay_strs : ∀ g : List Str, (∀ z ∈ g, PyData.strOk z = true) → PyData.canLayAll0 (g.map PyData.str) = true
  | [], _ => by simp [PyData.canLayAll0]
  | x :: r, h => by simp [PyData.canLayAll0, PyData.canLay0, lay_strs r (fun z hz => h z (List.mem_cons_of_mem _ hz)), h x (List.mem_cons_self ..)]
theorem lay_groups : ∀ b : List (List Str), (∀ g ∈ b, ∀ z ∈ g, PyData.strOk z = true) → PyData.canLayAll0 (b.map fun g => PyData.tuple (g.map .str)) = true
  | [], _ => by simp [PyData.canLayAll0]
  | g :: r, h => by simp [PyData.canLayAll0, PyData.canLay0, lay_strs g (h g (List.mem_cons_self ..)), lay_groups r (fun g hg => h g (List.mem_cons_of_mem _ hg))]
theorem lay_parts : ∀ L : List (List (List Str)), (∀ p ∈ L, ∀ g ∈ p, ∀ z ∈ g, PyData.strOk z = true) → PyData.canLayAll0 (L.map dPs) = true ∧ PyData.depthAll (L.map dPs) ≤ 2
  | [], _ => by simp [PyData.canLayAll0, PyData.depthAll]
  | b :: r, h => by
    obtain ⟨i1, i2⟩ := lay_parts r fun p hp => h p (List.mem_cons_of_mem _ hp)
    have d := depth_groups b
    have l := lay_groups b (h b (List.mem_cons_self ..))
    constructor
    · simp [PyData.canLayAll0, dPs, PyData.canLay0, l, i1]
    · simp only [List.map_cons, PyData.depthAll, dPs, PyData.depth]
      show max _ (PyData.depthAll (r.map dPs)) ≤ 2
      omega
theorem shaped_parts {L : List (List (List Str))} (h : ∀ p ∈ L, ∀ g ∈ p, ∀ z ∈ g, PyData.strOk z = true) : SeqAt.shaped (.list (L.map dPs)) = true := by
  obtain ⟨h1, h2⟩ := lay_parts L h
  unfold SeqAt.shaped
  rw [Bool.and_eq_true]
  constructor
  · simp [PyData.canLay0, h1]
  · refine decide_eq_true ?_
    simp only [PyData.depth]
    omega
def W8 : List Str := ["m.a", "m.b", "m.c0", "n.a", "n.zz", "a.x", "z.x", "m.main"]
theorem w8_ok : ∀ z ∈ W8, PyData.strOk z = true := by decide +kernel
end K2

set_option Elab.async false
set_option linter.all false
set_option maxRecDepth 100000
set_option maxHeartbeats 8000000
/-! The law. -/
namespace K2
open PySem PySem.Spec PyProof.Rows L2 FS LamX
theorem bb_isi : bootBuiltins "isinstance" = some (.builtin "isinstance") := by decide +kernel
theorem bb_list : bootBuiltins "list" = some (.type "list") := by decide +kernel
section
variable {P : Program} {w : World} {K : PySem.W.Frag} {mg : Str → Option Value} {base : Heap}
theorem kt_ll : PySem.W.kitOne K (.type "list") (.type "list") = some true := kit_ty (by decide +kernel)
def spLaw (K : PySem.W.Frag) (Pt : Addr) : Sp := fun vs H Q _ => ∃ (a : Addr) (ns : List Int), vs = [.ref a] ∧ SqL K H a (ns.map V.int) ∧ ns.length ≤ 63 ∧ TabS H Pt qLam ∧ ∀ H', Q (.bl true) H'
abbrev NLa : List Str := ["_law_script", "_law_k", "_law_pool_here", "_law_some", "_law_names", "_law_told", "_law_one"]
theorem scLa : FnScope NLa ["_law_script"] (defScope TopL.sLaw) := ⟨rfl, rfl, rfl, by decide +kernel, rfl, by decide +kernel, by decide +kernel⟩
theorem clamp (L : Int) (h : 0 ≤ L) : 1 ≤ (if (if (5 : Int) < L then 5 else L) > 1 then (if (5 : Int) < L then 5 else L) else 1) ∧ (if (if (5 : Int) < L then 5 else L) > 1 then (if (5 : Int) < L then 5 else L) else 1) ≤ 5 := by
  repeat' split
  all_goals omega
theorem ok_law {f fP fT fA fD Pt : Addr} {fd fdP fdT fdA fdD : FuncData} (F : Fun K "law" "law" TopL.sLaw f fd) (zr : mg "range" = none) (zM : mg "max" = none) (zm : mg "min" = none) (zn : mg "len" = none) (zt : mg "tuple" = none) (zo : mg "sorted" = none) (zs : mg "set" = none) (zi : mg "isinstance" = none) (zl : mg "list" = none)
    (GP : FnOk P w K mg base CX0 1 fP fdP ["_law_script", "_law_k"] (LP.spPool K)) (bP : Binds K fdP ["_law_script", "_law_k"] []) (gP : mg "_law_pool" = some (.ref fP)) (kP : PySem.W.keepIn K (.ref fP) = true)
    (GT : FnOk P w K mg base CX0 1 fT fdT ["_law_pool_here", "_law_many"] LP.spTake) (bT : Binds K fdT ["_law_pool_here", "_law_many"] []) (gT : mg "_law_take" = some (.ref fT)) (kT : PySem.W.keepIn K (.ref fT) = true)
    (GA : FnOk P w K mg base CX0 2 fA fdA ["names"] (spParts K Pt)) (bA : Binds K fdA ["names"] []) (gA : mg "partitions" = some (.ref fA)) (kA : PySem.W.keepIn K (.ref fA) = true)
    (GD : FnOk P w K mg base CX0 3 fD fdD ["_law_names"] (spDue K)) (bD : Binds K fdD ["_law_names"] []) (gD : mg "_law_due" = some (.ref fD)) (kD : PySem.W.keepIn K (.ref fD) = true) : FnOk P w K mg base CX0 4 f fd ["_law_script"] (spLaw K Pt) := by
  refine F.ok scLa (fun vs H Q E h => ?_) (fun cdv A0 outer s H vs Q E hr h => ?_)
  · obtain ⟨a, ns, rfl, _⟩ := h
    rfl
  · obtain ⟨a, ns, rfl, hS, hlen, hT, k⟩ := h
    have hr1 : Room 1 _ := hr.mono (by decide)
    have hr2 : Room 2 _ := hr.mono (by decide)
    refine ⟨_, pss_cons (ps_for PassesOwn.never rfl (pi_range1 rfl zr (pa_cons (pe_callB (call_max2 rfl) (by rfl) zM (by decide +kernel) (pa_cons pe_int (pa_cons (pe_callB (call_min2 rfl) (by rfl) zm (by decide +kernel) (pa_cons (pe_callB call_len_seq (by rfl) zn PySem.boot_len (pa_cons (pv 0) pa_nil)) (pa_cons pe_int pa_nil))) pa_nil))) pa_nil)) (pg_name (i := 1) scLa.nd rfl (Or.inl rfl))
        (pss_cons (ps_set (i := 2) scLa.nd rfl (.inr rfl) (pe_call GP hr1 rfl gP kP bP .nil pass0 (pa_cons (pv 0) (pa_cons (pv 1) pa_nil))))
        (pss_cons (ps_set (i := 3) scLa.nd rfl (.inr rfl) (pe_lstS (pa_cons pe_str (pa_cons pe_str (pa_cons pe_str (pa_cons pe_str (pa_cons pe_str (pa_cons pe_str (pa_cons pe_str (pa_cons pe_str pa_nil))))))))))
        (pss_cons (ps_set (i := 4) scLa.nd rfl (.inl rfl) (pe_callTy (r := rTupN K) call_tupN (by rfl) zt (by decide +kernel) (pa_cons (pe_sortSet rfl (by rfl) zo (by rfl) zs
            (pe_lc (own := [("_law_one", 6)]) (g := gName 6) (tt := tYes) rfl scLa.nd (pi_range1 rfl zr (pa_cons (pe_call GT hr1 rfl gT kT bT .nil pass0 (pa_cons (pv 2) (pa_cons pe_int pa_nil))) pa_nil)) (blkOk_by (N := NLa) (sc := defScope TopL.sLaw) (by decide +kernel))
              (fun _ _ _ _ _ => pg_name (i := 6) scLa.nd rfl (Or.inl rfl)) (fun _ _ _ _ _ => pts_nil) (fun _ _ _ _ _ => pe_ix (r := rIxL K) ix_list (pv 3) (pe_call GT hr1 rfl gT kT bT .nil pass0 (pa_cons (pv 2) (pa_cons pe_int pa_nil))) (fun _ _ => rfl)))) pa_nil)))
        (pss_cons (ps_set (i := 5) scLa.nd rfl (.inl rfl) (pe_call GA hr2 rfl gA kA bA .nil pass0 (pa_cons (pv 4) pa_nil)))
        (pss_one (ps_if (PW.pt (pw_or (pt_cmpR (op_neD hr.units) (pv 5) (pe_call GD hr rfl gD kD bD .nil pass0 (pa_cons (pv 4) pa_nil)) (nomark _)) (pw_or1 (pt_not (pt_val (pe_callB (id := "isinstance") (r := rIsi K) call_isi (by rfl) zi bb_isi (pa_cons (pv 5) (pa_cons (pe_bltn rfl zl bb_list (v := .ty "list") rfl) pa_nil)))))))) (pss_one (ps_ret pe_bl)) pss_nil)))))))
      (pss_one (ps_ret (pe_cmpR op_eq (pe_callB (id := "len") (r := rLenQ K) call_len_seq (by rfl) zn PySem.boot_len (pa_cons (pe_call GA hr2 rfl gA kA bA .nil pass0 (pa_cons (pe_tupS (pa_cons pe_str (pa_cons pe_str (pa_cons pe_str (pa_cons pe_str (pa_cons pe_str (pa_cons pe_str pa_nil))))))) pa_nil)) pa_nil)) pe_int (nomark _)))), ?_⟩
    have cl := clamp ((ns.map V.int).length : Int) (Int.natCast_nonneg _)
    refine ⟨.ref a, rfl, a, _, rfl, .inl hS, _, _, rfl, _, _, rfl, _, rfl, ?_, ?_, ?_⟩
    · show -(2 ^ 62) ≤ (if (if (5 : Int) < ((ns.map V.int).length : Int) then 5 else ((ns.map V.int).length : Int)) > 1 then (if (5 : Int) < ((ns.map V.int).length : Int) then 5 else ((ns.map V.int).length : Int)) else 1)
      omega
    · show (if (if (5 : Int) < ((ns.map V.int).length : Int) then 5 else ((ns.map V.int).length : Int)) > 1 then (if (5 : Int) < ((ns.map V.int).length : Int) then 5 else ((ns.map V.int).length : Int)) else 1) < 2 ^ 62
      omega
    refine for_range (fun i σ H' => ∃ y1 y2 y3 y4 y5 y6, σ = [some (.ref a), y1, y2, y3, y4, y5, y6] ∧ SqL K H' a (ns.map V.int) ∧ TabS H' Pt qLam) ⟨_, _, _, _, _, _, rfl, hS, hT⟩ ?_ (fun σ H1 ⟨y1, y2, y3, y4, y5, y6, eσ, hS1, hT1⟩ => ?_)
    · rintro i σ H1 hi ⟨y1, y2, y3, y4, y5, y6, rfl, hS1, hT1⟩
      have hi5 : i < 5 := by
        have : i < (if (if (5 : Int) < ((ns.map V.int).length : Int) then 5 else ((ns.map V.int).length : Int)) > 1 then (if (5 : Int) < ((ns.map V.int).length : Int) then 5 else ((ns.map V.int).length : Int)) else 1).toNat := hi
        omega
      refine ⟨.ref a, rfl, .int (0 + (i : Int)), rfl, a, ns, i, by simp, hS1, hi5, hlen, fun H2 p s2 np pa => ?_⟩
      refine ⟨by simp, fun l3 H3 s3 n3 e3 => ?_⟩
      have nl3 : l3 ≠ p := fun z => by
        obtain ⟨g, t, e, _⟩ := pa
        rw [z, e] at n3
        cases n3
      refine ⟨.ref p, rfl, p, 6, rfl, by decide, by decide, pa.mono s3, fun H4 r o4 pa4 hr6 => ⟨(r : Int), rfl, by omega, by omega, fun D hD => ?_⟩⟩
      refine lc_range (lo := 0) (n := r) (fun j H' => Same H1 H' ∧ LP.PAt p H' ∧ H' l3 = some (.lst (W8.map V.str)) ∧ ∃ ks : List Str, H' D = some (.lst (ks.map V.str)) ∧ ks.length = j ∧ ∀ z ∈ ks, z ∈ W8) ?_ (fun j H5 hj ⟨s5, pa5, e5, ks, eD5, lk, mk⟩ => ?_) (fun H5 ⟨s5, pa5, e5, ks, eD5, lk, mk⟩ => ?_)
      · have nDp : p ≠ D := fun z => by
          obtain ⟨g, t, e, _⟩ := pa4
          rw [z, hD] at e
          cases e
        have s4 : Same H1 H4 := Off.same (s2.trans s3) np o4
        have e4 : H4 l3 = some (.lst (W8.map V.str)) := o4 _ _ nl3 e3
        refine ⟨fun b o e => ?_, ?_, ?_, [], upd_same, rfl, fun z hz => by cases hz⟩
        · rw [upd_ne (ne_of_none (s4 _ _ e) hD)]
          exact s4 _ _ e
        · obtain ⟨g, t, e, l⟩ := pa4
          exact ⟨g, t, by rw [upd_ne nDp]; exact e, l⟩
        · rw [upd_ne (ne_of_none e4 hD)]
          exact e4
      · refine ⟨by simp [wipe], .ref l3, rfl, .ref p, rfl, p, 8, rfl, by decide, by decide, pa5, fun H6 r8 o6 pa6 h8 => ?_⟩
        have nDp : D ≠ p := fun z => by
          obtain ⟨g, t, e, _⟩ := pa5
          rw [← z, eD5] at e
          cases ks <;> cases e
        have nD3 : l3 ≠ D := fun z => by
          obtain ⟨g, t, e, _⟩ := pa4
          have := o4 _ _ nl3 e3
          rw [z, hD] at this
          cases this
        have e6 : H6 l3 = some (.lst (W8.map V.str)) := o6 _ _ nl3 e5
        have eD6 : H6 D = some (.lst (ks.map V.str)) := o6 _ _ nDp eD5
        have h8' : r8 < W8.length := h8
        have g : (W8.map V.str)[r8]? = some (V.str W8[r8]) := by
          rw [List.getElem?_map, List.getElem?_eq_getElem h8']
          rfl
        refine ⟨l3, _, _, _, rfl, rfl, SqL.of e6, atI_nat g, _, eD6, ?_, fun b o e => ?_, ?_, ?_, ks ++ [W8[r8]], ?_, ?_, ?_⟩
        · rw [List.length_map]
          exact small1000 (by omega)
        · have nb : b ≠ D := fun z => by
            have := Off.same (s2.trans s3) np o4 _ _ e
            rw [z, hD] at this
            cases this
          rw [upd_ne nb]
          exact Off.same s5 np o6 _ _ e
        · obtain ⟨g, t, e, l⟩ := pa6
          exact ⟨g, t, by rw [upd_ne (fun z => nDp z.symm)]; exact e, l⟩
        · rw [upd_ne nD3]
          exact e6
        · rw [upd_same, List.map_append]
          rfl
        · rw [List.length_append, lk]
          rfl
        · intro z hz
          rcases List.mem_append.mp hz with hz | hz
          · exact mk z hz
          · rw [List.mem_singleton.mp hz]
            exact List.getElem_mem h8'
      · refine ⟨D, ks, rfl, SqL.of eD5, by omega, fun p5 H6 ys s6 n6 e6 hso hnd hme hle => ⟨p5, _, rfl, SqL.of e6, fun t H7 s7 n7 e7 => ?_⟩⟩
        have hys : ys.length ≤ 5 := by omega
        have S7 : Same H1 H7 := (s5.trans s6).trans s7
        refine ⟨.ref t, rfl, t, ys, rfl, .inl (.inl e7), by omega, hT1.ext S7, fun H8 D8 zs8 x8 t8 d8 r8 => ?_⟩
        refine ⟨.ref D8, rfl, .ref t, rfl, t, ys, rfl, tup_ext x8 (.inl (.inl e7)), hys, fun H9 D9 zs9 s9 d9 r9 => ?_⟩
        rw [← made_eq ys hys] at r9
        have okL : ∀ q ∈ (made ys).mergeSort (PySem.W.dataLe false keyPs), ∀ g ∈ q, ∀ z ∈ g, PyData.strOk z = true := fun q hq g hg z hz => w8_ok z (mk z ((hme z).mp (made_mem q ((List.mergeSort_perm _ _).mem_iff.mp hq) g hg z hz)))
        refine ⟨.list (((made ys).mergeSort (PySem.W.dataLe false keyPs)).map dPs), .list (((made ys).mergeSort (PySem.W.dataLe false keyPs)).map dPs), .lst (SqL.of (s9 _ _ d8)) (r8.mono s9).all, .lst (SqL.of d9) r9.all, shaped_parts okL, shaped_parts okL, ?_⟩
        have ev : PyData.eqv (.list (((made ys).mergeSort (PySem.W.dataLe false keyPs)).map dPs)) (.list (((made ys).mergeSort (PySem.W.dataLe false keyPs)).map dPs)) = true := by
          rw [PyData.eqv]
          exact eqv_parts _
        rw [ev]
        refine ⟨_, rfl, iteF ?_⟩
        refine ⟨.ref D8, rfl, .ref D8, .ty "list", .type "list", .type "list", true, rfl, .ty "list", .base (.lst (s9 _ _ d8)), kt_ll, _, rfl, iteF ?_⟩
        exact ⟨_, _, _, _, _, _, rfl, seq_ext (x8.trans (ExtN.of s9)) (seq_ext (ExtN.of S7) hS1), t8.ext s9⟩
    · subst eσ
      refine ⟨by simp, fun t H2 s2 n2 e2 => ⟨t, ["a", "b", "c", "d", "e", "f"], rfl, .inl (.inl e2), by decide, hT1.ext (fun _ _ e => s2 _ _ e), fun H3 D zs eN tN eD rD => ⟨D, zs, rfl, .inl (SqL.of eD), ?_⟩⟩⟩
      have lz : zs.length = 203 := by
        rw [rD.len, List.length_mergeSort]
        exact six_len _ rfl
      rw [lz]
      exact ⟨rfl, k H3⟩
end
end K2

set_option Elab.async false
set_option linter.all false
set_option maxRecDepth 100000
set_option maxHeartbeats 8000000
namespace K2
open PySem PySem.Spec PyProof.Rows L2 FS LamX
theorem all_mk {l : PySem.W.OpenLaw} {w : World} {K : PySem.W.Frag} {h : Heap} {mg : Str → Option Value} {fa Cod Pt fW fA fP fT fO fM fD fL : Addr} (X : K.In h) (G : h.Ns mainGlobals mg) (hfa : mg "law" = some (.ref fa)) (tP : h.get? Pt = some (PySem.W.tabObj #[]))
    {cdW : Value}
    {ocW kVW dcW pmW ctW : Value} {odW anW : Option Addr} {slW : Array (Option Value)}
    {ocA kVA dcA pmA ctA : Value} {odA anA : Option Addr} {slA : Array (Option Value)}
    {cdP : Value}
    {ocP kVP dcP pmP ctP : Value} {odP anP : Option Addr} {slP : Array (Option Value)}
    {cdT : Value}
    {ocT kVT dcT pmT ctT : Value} {odT anT : Option Addr} {slT : Array (Option Value)}
    {cdO : Value}
    {ocO kVO dcO pmO ctO : Value} {odO anO : Option Addr} {slO : Array (Option Value)}
    {cdM : Value}
    {ocM kVM dcM pmM ctM : Value} {odM anM : Option Addr} {slM : Array (Option Value)}
    {cdD : Value}
    {ocD kVD dcD pmD ctD : Value} {odD anD : Option Addr} {slD : Array (Option Value)}
    {cdL : Value}
    {ocL kVL dcL pmL ctL : Value} {odL anL : Option Addr} {slL : Array (Option Value)}
    (zenumerate : PySem.W.nsIn K mainGlobals "enumerate" = some none)
    (zsorted : PySem.W.nsIn K mainGlobals "sorted" = some none)
    (zlen : PySem.W.nsIn K mainGlobals "len" = some none)
    (zabs : PySem.W.nsIn K mainGlobals "abs" = some none)
    (zint : PySem.W.nsIn K mainGlobals "int" = some none)
    (zrange : PySem.W.nsIn K mainGlobals "range" = some none)
    (zmax : PySem.W.nsIn K mainGlobals "max" = some none)
    (zmin : PySem.W.nsIn K mainGlobals "min" = some none)
    (ztuple : PySem.W.nsIn K mainGlobals "tuple" = some none)
    (zzip : PySem.W.nsIn K mainGlobals "zip" = some none)
    (zset : PySem.W.nsIn K mainGlobals "set" = some none)
    (zisinstance : PySem.W.nsIn K mainGlobals "isinstance" = some none)
    (zlist : PySem.W.nsIn K mainGlobals "list" = some none)
    (aW : PySem.W.nsIn K mainGlobals "with_name" = some (some (.ref fW)))
    (lW : K.lookup fW = some ⟨ocW, odW, .func (PySem.W.fnOf "with_name" "with_name" (defArgs TopL.sWith) (defBody TopL.sWith) (defScope TopL.sWith) .none kVW dcW pmW anW cdW ctW), slW⟩) (cW : PySem.W.codeIn K cdW "with_name" = true) (kW : PySem.W.keepIn K (.ref fW) = true)
    (aA : PySem.W.nsIn K mainGlobals "partitions" = some (some (.ref fA)))
    (lA : K.lookup fA = some ⟨ocA, odA, .func (PySem.W.fnOf "partitions" "partitions" (defArgs TopL.sParts) (defBody TopL.sParts) (defScope TopL.sParts) .none kVA dcA pmA anA (.ref Cod) ctA), slA⟩) (cA : PySem.W.codeIn K (.ref Cod) "partitions" = true) (kA : PySem.W.keepIn K (.ref fA) = true)
    (aP : PySem.W.nsIn K mainGlobals "_law_pool" = some (some (.ref fP)))
    (lP : K.lookup fP = some ⟨ocP, odP, .func (PySem.W.fnOf "_law_pool" "_law_pool" (defArgs TopL.sPool) (defBody TopL.sPool) (defScope TopL.sPool) .none kVP dcP pmP anP cdP ctP), slP⟩) (cP : PySem.W.codeIn K cdP "_law_pool" = true) (kP : PySem.W.keepIn K (.ref fP) = true)
    (aT : PySem.W.nsIn K mainGlobals "_law_take" = some (some (.ref fT)))
    (lT : K.lookup fT = some ⟨ocT, odT, .func (PySem.W.fnOf "_law_take" "_law_take" (defArgs TopL.sTake) (defBody TopL.sTake) (defScope TopL.sTake) .none kVT dcT pmT anT cdT ctT), slT⟩) (cT : PySem.W.codeIn K cdT "_law_take" = true) (kT : PySem.W.keepIn K (.ref fT) = true)
    (aO : PySem.W.nsIn K mainGlobals "_law_longer" = some (some (.ref fO)))
    (lO : K.lookup fO = some ⟨ocO, odO, .func (PySem.W.fnOf "_law_longer" "_law_longer" (defArgs TopL.sLonger) (defBody TopL.sLonger) (defScope TopL.sLonger) .none kVO dcO pmO anO cdO ctO), slO⟩) (cO : PySem.W.codeIn K cdO "_law_longer" = true) (kO : PySem.W.keepIn K (.ref fO) = true)
    (aM : PySem.W.nsIn K mainGlobals "_law_marks" = some (some (.ref fM)))
    (lM : K.lookup fM = some ⟨ocM, odM, .func (PySem.W.fnOf "_law_marks" "_law_marks" (defArgs TopL.sMarks) (defBody TopL.sMarks) (defScope TopL.sMarks) .none kVM dcM pmM anM cdM ctM), slM⟩) (cM : PySem.W.codeIn K cdM "_law_marks" = true) (kM : PySem.W.keepIn K (.ref fM) = true)
    (aD : PySem.W.nsIn K mainGlobals "_law_due" = some (some (.ref fD)))
    (lD : K.lookup fD = some ⟨ocD, odD, .func (PySem.W.fnOf "_law_due" "_law_due" (defArgs TopL.sDue) (defBody TopL.sDue) (defScope TopL.sDue) .none kVD dcD pmD anD cdD ctD), slD⟩) (cD : PySem.W.codeIn K cdD "_law_due" = true) (kD : PySem.W.keepIn K (.ref fD) = true)
    (aL : PySem.W.nsIn K mainGlobals "law" = some (some (.ref fL)))
    (lL : K.lookup fL = some ⟨ocL, odL, .func (PySem.W.fnOf "law" "law" (defArgs TopL.sLaw) (defBody TopL.sLaw) (defScope TopL.sLaw) .none kVL dcL pmL anL cdL ctL), slL⟩) (cL : PySem.W.codeIn K cdL "law" = true) (kL : PySem.W.keepIn K (.ref fL) = true)
    (hP : PySem.W.codeHdIn K Cod Pt = true)
    (nP : K.lookup Pt = none)
    : LawAtS l w K CX0 4 63 "_law_script" mg fa h := by
  have e := hfa.symm.trans (PySem.W.mg_of X G aL)
  cases e
  have FW := fun_mk (st := TopL.sWith) lW cW kW
  have bW := FW.binds (ps := ["parts", "name"]) fun _ _ _ _ _ _ us hl => match us, hl with | [_, _], _ => rfl
  have FA := fun_mk (st := TopL.sParts) lA cA kA
  have bA := FA.binds (ps := ["names"]) fun _ _ _ _ _ _ us hl => match us, hl with | [_], _ => rfl
  have FP := fun_mk (st := TopL.sPool) lP cP kP
  have bP := FP.binds (ps := ["_law_script", "_law_k"]) fun _ _ _ _ _ _ us hl => match us, hl with | [_, _], _ => rfl
  have FT := fun_mk (st := TopL.sTake) lT cT kT
  have bT := FT.binds (ps := ["_law_pool_here", "_law_many"]) fun _ _ _ _ _ _ us hl => match us, hl with | [_, _], _ => rfl
  have FO := fun_mk (st := TopL.sLonger) lO cO kO
  have bO := FO.binds (ps := ["_law_found"]) fun _ _ _ _ _ _ us hl => match us, hl with | [_], _ => rfl
  have FM := fun_mk (st := TopL.sMarks) lM cM kM
  have bM := FM.binds (ps := ["_law_many"]) fun _ _ _ _ _ _ us hl => match us, hl with | [_], _ => rfl
  have FD := fun_mk (st := TopL.sDue) lD cD kD
  have bD := FD.binds (ps := ["_law_names"]) fun _ _ _ _ _ _ us hl => match us, hl with | [_], _ => rfl
  have FL := fun_mk (st := TopL.sLaw) lL cL kL
  have bL := FL.binds (ps := ["_law_script"]) fun _ _ _ _ _ _ us hl => match us, hl with | [_], _ => rfl
  refine ⟨PySem.W.fnOf "law" "law" (defArgs TopL.sLaw) (defBody TopL.sLaw) (defScope TopL.sLaw) .none kVL dcL pmL anL cdL ctL, [(Cod, Pt)], spLaw K Pt, fun p hp => ?_, fun p hp => ?_, fun p hp => ?_, fun s v => .of_eq rfl, fun H a ns hl _ hT hS => ⟨a, ns, rfl, hS, hl, TabS.nil (hT (Cod, Pt) (List.mem_singleton.mpr rfl)), fun _ => rfl⟩, fun base _ _ TB => ?_⟩
  · rw [List.mem_singleton.mp hp]
    exact tP
  · rw [List.mem_singleton.mp hp]
    exact nP
  · rw [List.mem_singleton.mp hp]
    exact PySem.W.codeHd_of_K X hP
  have TB1 := TB (Cod, Pt) (List.mem_singleton.mpr rfl)
  have GW : FnOk l.prog w K mg base CX0 1 fW _ ["parts", "name"] spWith := ok_with FW (PySem.W.mg_none_of X G zenumerate)
  have GA : FnOk l.prog w K mg base CX0 2 fA _ ["names"] (spParts K Pt) := ok_parts lA cA (PySem.W.mg_none_of X G zsorted) (PySem.W.mg_none_of X G zlen) TB1 GW bW (PySem.W.mg_of X G aW) kW
  have GP : FnOk l.prog w K mg base CX0 1 fP _ ["_law_script", "_law_k"] (LP.spPool K) := LP.ok_pool FP (PySem.W.mg_none_of X G zlen) (PySem.W.mg_none_of X G zabs) (PySem.W.mg_none_of X G zint)
  have GT : FnOk l.prog w K mg base CX0 1 fT _ ["_law_pool_here", "_law_many"] LP.spTake := LP.ok_take FT
  have GO : FnOk l.prog w K mg base CX0 1 fO _ ["_law_found"] spLonger := ok_longer FO (PySem.W.mg_none_of X G zrange) (PySem.W.mg_none_of X G zmax)
  have GM : FnOk l.prog w K mg base CX0 2 fM _ ["_law_many"] spMarks := ok_marks FM (PySem.W.mg_none_of X G zrange) GO bO (PySem.W.mg_of X G aO) kO
  have GD : FnOk l.prog w K mg base CX0 3 fD _ ["_law_names"] (spDue K) := ok_due FD (PySem.W.mg_none_of X G zrange) (PySem.W.mg_none_of X G zmax) (PySem.W.mg_none_of X G zlen) (PySem.W.mg_none_of X G ztuple) (PySem.W.mg_none_of X G zzip) (PySem.W.mg_none_of X G zsorted) GM bM (PySem.W.mg_of X G aM) kM
  exact ok_law FL (PySem.W.mg_none_of X G zrange) (PySem.W.mg_none_of X G zmax) (PySem.W.mg_none_of X G zmin) (PySem.W.mg_none_of X G zlen) (PySem.W.mg_none_of X G ztuple) (PySem.W.mg_none_of X G zsorted) (PySem.W.mg_none_of X G zset) (PySem.W.mg_none_of X G zisinstance) (PySem.W.mg_none_of X G zlist) GP bP (PySem.W.mg_of X G aP) kP GT bT (PySem.W.mg_of X G aT) kT GA bA (PySem.W.mg_of X G aA) kA GD bD (PySem.W.mg_of X G aD) kD
end K2
open PySem PySem.W PyProof.Rows in
set_option maxRecDepth 100000 in
set_option maxHeartbeats 0 in
theorem PySem.Challenge.cw_foldsame_k20_partitions_holds : PySem.Challenge.rw_foldsame_k20_partitions.Holds := by
  w_on; o_law; k_head; (case hw => w_witness2)
  k_fill
  refine LamX.walk_ofTs (l := PySem.Challenge.rw_foldsame_k20_partitions) (n := 63) (k := 4) (x := "_law_script") (CX := fun _ => L2.CX0) rfl (by decide) rfl ⟨rfl, by decide, by decide⟩ (fun w h Y => PySem.W.km_in_of Y) ?F (fun _ _ _ _ _ h => h)
  case F =>
    intro w mg fa h Y KX G hmg
    have hT8 := PySem.W.km_tabs_of Y
    refine' K2.all_mk (Pt := 21) KX G hmg (hT8 21 (by simp)) ?zenumerate ?zsorted ?zlen ?zabs ?zint ?zrange ?zmax ?zmin ?ztuple ?zzip ?zset ?zisinstance ?zlist ?aW ?lW ?cW ?kW ?aA ?lA ?cA ?kA ?aP ?lP ?cP ?kP ?aT ?lT ?cT ?kT ?aO ?lO ?cO ?kO ?aM ?lM ?cM ?kM ?aD ?lD ?cD ?kD ?aL ?lL ?cL ?kL ?hP ?nP
    (case zenumerate => k_is)
    (case zsorted => k_is)
    (case zlen => k_is)
    (case zabs => k_is)
    (case zint => k_is)
    (case zrange => k_is)
    (case zmax => k_is)
    (case zmin => k_is)
    (case ztuple => k_is)
    (case zzip => k_is)
    (case zset => k_is)
    (case zisinstance => k_is)
    (case zlist => k_is)
    (case aW => k_is)
    (case lW => k_is)
    (case cW => k_is)
    (case kW => k_is)
    (case aA => k_is)
    (case lA => k_is)
    (case cA => k_is)
    (case kA => k_is)
    (case aP => k_is)
    (case lP => k_is)
    (case cP => k_is)
    (case kP => k_is)
    (case aT => k_is)
    (case lT => k_is)
    (case cT => k_is)
    (case kT => k_is)
    (case aO => k_is)
    (case lO => k_is)
    (case cO => k_is)
    (case kO => k_is)
    (case aM => k_is)
    (case lM => k_is)
    (case cM => k_is)
    (case kM => k_is)
    (case aD => k_is)
    (case lD => k_is)
    (case cD => k_is)
    (case kD => k_is)
    (case aL => k_is)
    (case lL => k_is)
    (case cL => k_is)
    (case kL => k_is)
    (case hP => kernel_rfl)
    (case nP => kernel_rfl)
