import PyProof.Rows.All
import HandS.ForMost
import HandS.ForExc
import HandS.RaiseMore
import HandS.IsInst
import HandS.Wide
import PyProof.ReprRoads
import HandS.TupMul
import HandS.Codes
import KE.KExcInit
import HandS.TupAny
import HandS.Style
import HandS.TupLe
import HandS.DeepEq
import PyProof.ReprLen
import KE.GoesMore
import HandS.Iter
import HandS.Walk
import HandS.Strs
import HandS.Zip
import HandS.List
import PyProof.Rows.StrMeet
import HandS.StrMore
import PySem.Challenge.RW_sharedlets_k08_graphs_made
import HandS.NamedTupSort
import HandS.SortInts
import KE.KRevSl
import HandS.Dict
import HandS.DictComp
import PyProof.DictUpdate
import HandS.Conv
import HandS.Small
import HandS.SetFor
import KE.OsSetLaws
import HandS.SortRule
import HandS.Star
import HandS.CallLocal
import HandS.SlotsOwn
import HandS.Property
import OpenK.KOps
import OpenK.KMeth
import HandS.More
import PyProof.InstNe
import KE.KCallOwn
import HandS.IterVal
import KE.KOwnIter
import HandS.ClsMeth
import KE.GoesZip
import KE.KDictZip
import HandS.ListItems
import KE.KItemsList
import HandS.Sort
import HandS.FStr
import HandS.Deep
set_option Elab.async false
set_option linter.all false
set_option maxRecDepth 100000
set_option maxHeartbeats 4000000
/-! ## Promises that are kept where no repr is under way; repr of data; a law's head -/
namespace Sl
open PySem PySem.Spec PyProof.Rows L2
/-- as FnOk, where the frames around are known to write nothing -/
structure FnG (P : Program) (w : World) (K : PySem.W.Frag) (mg : Str → Option Value) (base : Heap) (CX : CXT) (k : Nat) (f : Addr) (fd : FuncData) (ps : List Str) (sp : Sp) : Prop where
  size : ∀ xs G Q E, sp xs G Q E → xs.length = ps.length
  goes : ∀ A : Around, A.guards = some [] → ∀ (l : List Env) (z : Shared) (G : Hp) (ar : Args) (us : List Value) (xs : List V) (Q : VK) (E : XK), Room k A → Env0 P w K mg base A l z G →
    BindsTo z fd ar (ps.zip us) → Vals xs us → sp xs G Q E → codeAny (model P w) A (.call (.ref f) ar) (CR CX l P w G z Q E) z
theorem FnG.of {P : Program} {w : World} {K : PySem.W.Frag} {mg : Str → Option Value} {base : Heap} {CX : CXT} {k : Nat} {f : Addr} {fd : FuncData} {ps : List Str} {sp : Sp}
    (F : FnOk P w K mg base CX k f fd ps sp) : FnG P w K mg base CX k f fd ps sp :=
  ⟨F.len, fun A _ l z G ar us xs Q E a b c d e => F.run A l z G ar us xs Q E a b c d e⟩
section
variable {X : Cx} {CX : CXT} {k : Nat} {f : Addr} {fd : FuncData} {ps : List Str} {sp : Sp} {dvs : List V} {ds : List Value} {E : XK} {x : Str} {p pos : Pos} {e : Expr} {es : List Expr} {t : TA}
theorem goG {pins : List (Addr × Obj)} {σ : L2.St} {G : Hp} {z : Shared} {Q : VK} {us : List Value} {xs : List V} (hG : X.A.guards = some []) (F : FnG X.prog X.w X.K X.mg X.base CX k f fd ps sp) (hr : Room k X.A) (hb : Binds X.K fd ps ds)
    (hd : Vals dvs ds) (hx : Passes CX X E) (I : Inv X pins σ G z) (r : Vals xs us) (h : sp (xs ++ dvs) G Q E) :
    wpAny (model X.prog X.w) X.A (call (.ref f) us) (EP X pins σ Q) X.xe z := by
  have r' : Vals (xs ++ dvs) (us ++ ds) := r.append hd
  have n : (us ++ ds).length = ps.length := r'.length.symm.trans (F.size _ _ _ _ h)
  apply wpAny_call
  apply codeAny_mono (F.goes X.A hG X.stack z G ⟨us, []⟩ (us ++ ds) (xs ++ dvs) Q E hr I.env0 (hb z us I.kIn n) r' h)
  intro o z' q
  match o, q with
  | .error e, q => exact hx pins σ G z e z' I q
  | .ok (.ret u), q => exact I.after q
/-- f(e, ..), f of such a promise -/
theorem pe_callG (hG : X.A.guards = some []) (F : FnG X.prog X.w X.K X.mg X.base CX k f fd ps sp) (hr : Room k X.A) (hg : Gl X x) (hm : X.mg x = some (.ref f)) (hk : PySem.W.keepIn X.K (.ref f) = true) (hb : Binds X.K fd ps ds)
    (hd : Vals dvs ds) (hx : Passes CX X E) (ha : PA X (e :: es) t) (hdb : (x == ("__debug__" : Str)) = false := by decide)
    (he : starEach (e :: es) X.env = (false, eval e X.env) :: starEach es X.env := by rfl) (hpl : (backTo pos (starEach es X.env)).any (·.1) = false := by rfl) :
    PE X (.Call (.Name x p) (e :: es) [] pos) (tCall sp dvs E t) := by
  constructor
  intro pins z σ G Q I h
  apply wpAny_Call_Name_kw (ld_glob I hg hm ?_ hdb)
  apply PySem.W.callWith_K (h₀ := X.base) I.ok.mod.kin hk ?_ he hpl
  exact thn (ha.run pos pins z σ G _ I h) fun us z1 ⟨xs, G1, I1, r, q⟩ => ⟨I1.kIn, goG hG F hr hb hd hx I1 r q⟩
end
section
variable {P : Program} {w : World} {K : PySem.W.Frag} {mg : Str → Option Value} {base : Heap}
/-- a def by its body: as Fun.okX, the body may use that no repr is under way -/
theorem okG {x qual : Str} {st : Stmt} {f : Addr} {fd : FuncData} {N ps : List Str} {k : Nat} {sp : Sp} (F : Fun K x qual st f fd) (S : FnScope N ps (defScope st)) (size : ∀ xs G Q E, sp xs G Q E → xs.length = ps.length)
    (body : ∀ (cdv : Value) (A : Around) (l : List Env) (z : Shared) (G : Hp) (xs : List V) (Q : VK) (E : XK), A.guards = some [] → Room k (A.deeper (envOfC qual (defScope st) z.heap.objs.size f cdv)) → sp xs G Q E →
      ∃ t, PSs (cxOf (L2.CX P w) P w K mg base N qual (defScope st) f cdv A l z G E) (defBody st) t ∧ t { nx := fun _ G' => Q .non G', rt := Q } (start N xs) G) :
    FnG P w K mg base (L2.CX P w) (k + 1) f fd ps sp := by
  obtain ⟨oc, od, kV, doc, pm, an, cdv, ct, osl, rfl, lk, hcd⟩ := F.ex
  constructor
  · exact size
  intro A hG l z G ar us xs Q E hr e0 hb r hsp
  have hl := size _ _ _ _ hsp
  have inK : K.In z.heap := e0.mod.kin.keeps fun b o e => (e0.bs b o e).1
  have lim : z.heap.NoLimit := e0.mod.nolimit.keeps fun b o e => (e0.bs b o e).1
  have kinds : ∀ y ∈ ps.zip us, (defScope st).names.lookup y.1 = some .local ∨ ((defScope st).names.lookup y.1 = some .cell ∧ ((cellsFrom (z.heap.objs.size + 1) (defScope st).names []).lookup y.1).isSome = true) := by
    intro ⟨n, v⟩ hy
    cases S.par n (List.of_mem_zip hy).1 with
    | inl q => exact Or.inl q
    | inr q => exact Or.inr ⟨q, PySem.W.cellsFrom_some _ _ _ (Or.inl q)⟩
  apply codeAny_call_function hr.depth (inK _ _ lk) rfl S.co S.gen rfl (PySem.W.codeRec_of inK hcd) (hb _ _ _ _ ?_)
  apply wpAny_newFunctionEnv_cells S.kind kinds
  intro env he z1 y
  subst he
  refine ⟨lim.keeps y.toInCall.keep, codeAny_func ?_⟩
  obtain ⟨t, ht, hq⟩ := body cdv A l z G xs Q E hG (hr.deeper _) hsp
  have I0 := inv_start (CX := L2.CX P w) (N := N) (qual := qual) (scope := defScope st) (f := f) (cd := cdv) (E := E) S hr.hd e0 hl r y
  apply wpAny_mono (ht.run [] z1 (start N xs) G _ I0 hq) ?_ (fun e z' hz => hz)
  intro fl z' hz
  match fl, hz with
  | .ret u, ⟨v, σ', G', J, rv, q⟩ => exact ⟨v, G', J.os, J.bare, J.base, J.hok, rv, q⟩
  | .next, ⟨σ', G', J, q⟩ => exact ⟨V.non, G', J.os, J.bare, J.base, J.hok, rfl, q⟩
  | .brk, ⟨_, _, _, q⟩ => exact q.elim
  | .cont, ⟨_, _, _, q⟩ => exact q.elim
end
/-! ### heaps: lists may be filled, all else stays -/
/-- all that is tracked stays, but for what lists hold -/
def Ex (G G' : Hp) : Prop := ∀ b o, G b = some o → G' b = some o ∨ ((∃ l, o = .lst l) ∧ ∃ l', G' b = some (.lst l'))
theorem Ex.refl (G : Hp) : Ex G G := fun _ _ h => .inl h
theorem Ex.trans {G G1 G2 : Hp} (a : Ex G G1) (b : Ex G1 G2) : Ex G G2 := by
  intro c o h
  rcases a c o h with h1 | ⟨⟨l, e⟩, l1, h1⟩
  · exact b c o h1
  · rcases b c _ h1 with h2 | ⟨_, l2, h2⟩
    · exact .inr ⟨⟨l, e⟩, _, h2⟩
    · exact .inr ⟨⟨l, e⟩, _, h2⟩
theorem Ex.same {G G' : Hp} (h : Same G G') : Ex G G' := fun b o q => .inl (h b o q)
theorem Same.new {G : Hp} {p : Addr} {o : HO} (h : G p = none) : Same G (upd G p o) := fun b x e => by
  rw [upd_ne (ne_of_none e h)]
  exact e
/-- all but a stays -/
def Off (a : Addr) (G G' : Hp) : Prop := ∀ b o, b ≠ a → G b = some o → G' b = some o
theorem Off.refl (a : Addr) (G : Hp) : Off a G G := fun _ _ _ h => h
theorem Off.trans {a : Addr} {G G1 G2 : Hp} (x : Off a G G1) (y : Off a G1 G2) : Off a G G2 := fun b o n h => y b o n (x b o n h)
theorem Off.put {a : Addr} {G : Hp} {o : HO} : Off a G (upd G a o) := fun b x n e => by
  rw [upd_ne n]
  exact e
theorem Off.same {a : Addr} {G G' : Hp} (h : Same G G') : Off a G G' := fun b o _ q => h b o q
theorem Off.ex {a : Addr} {G G' : Hp} {l l' : List V} (h : Off a G G') (h1 : G a = some (.lst l)) (h2 : G' a = some (.lst l')) : Ex G G' := by
  intro b o q
  by_cases e : b = a
  · subst e
    rw [h1] at q
    cases q
    exact .inr ⟨⟨l, rfl⟩, l', h2⟩
  · exact .inl (h b o e q)
theorem Ex.tup {K : PySem.W.Frag} {G G' : Hp} {a : Addr} {xs : List V} (e : Ex G G') (h : SqT K G a xs) : SqT K G' a xs := by
  rcases h with (h | ⟨o, h⟩) | h
  · rcases e _ _ h with q | ⟨⟨_, z⟩, _⟩
    · exact .inl (.inl q)
    · cases z
  · rcases e _ _ h with q | ⟨⟨_, z⟩, _⟩
    · exact .inl (.inr ⟨o, q⟩)
    · cases z
  · exact .inr h
theorem Ex.ty {K : PySem.W.Frag} {G G' : Hp} {v : V} {t : Value} (e : Ex G G') (h : TyX K G v t) : TyX K G' v t := by
  cases h with
  | base b =>
    cases b with
    | non => exact .base .non
    | bl x => exact .base (.bl x)
    | int i => exact .base (.int i)
    | str x => exact .base (.str x)
    | flt x => exact .base (.flt x)
    | lst q =>
      rcases e _ _ q with q | ⟨_, l, q⟩
      · exact .base (.lst q)
      · exact .base (.lst q)
    | frz q =>
      rcases e _ _ q with q | ⟨⟨_, z⟩, _⟩
      · exact .base (.frz q)
      · cases z
    | tup q =>
      rcases e _ _ q with q | ⟨⟨_, z⟩, _⟩
      · exact .base (.tup q)
      · cases z
    | dK q =>
      rcases e _ _ q with q | ⟨⟨_, z⟩, _⟩
      · exact .base (.dK q)
      · cases z
    | dT q =>
      rcases e _ _ q with q | ⟨⟨_, z⟩, _⟩
      · exact .base (.dT q)
      · cases z
    | ins q cl ha hn htk hm =>
      rcases e _ _ q with q | ⟨⟨_, z⟩, _⟩
      · exact .base (.ins q cl ha hn htk hm)
      · cases z
  | byt b => exact .byt b
  | set q =>
    rcases e _ _ q with q | ⟨⟨_, z⟩, _⟩
    · exact .set q
    · cases z
  | kList a b => exact .kList a b
  | kTuple a b => exact .kTuple a b
  | kDict a b => exact .kDict a b
  | fTuple q =>
    rcases e _ _ q with q | ⟨⟨_, z⟩, _⟩
    · exact .fTuple q
    · cases z
  | fDict q =>
    rcases e _ _ q with q | ⟨⟨_, z⟩, _⟩
    · exact .fDict q
    · cases z
/-! ### values of any kind: what lists and dicts hold is left out -/
inductive D where
  | non
  | bl (b : Bool)
  | int (i : Int)
  | str (x : Str)
  | tup (ds : List D)
  | lst
  | dct
def D.ty : D → String
  | .non => "NoneType"
  | .bl _ => "bool"
  | .int _ => "int"
  | .str _ => "str"
  | .tup _ => "tuple"
  | .lst => "list"
  | .dct => "dict"
mutual
inductive Rdd (K : PySem.W.Frag) (H : Hp) : V → D → Prop
  | non : Rdd K H .non .non
  | bl (b : Bool) : Rdd K H (.bl b) (.bl b)
  | int (i : Int) : Rdd K H (.int i) (.int i)
  | str (x : Str) : Rdd K H (.str x) (.str x)
  | tup {a : Addr} {xs : List V} {ds : List D} : SqT K H a xs → RddAll K H xs ds → ds.length ≤ 100000 → Rdd K H (.ref a) (.tup ds)
  | lst {v : V} : TyX K H v (.type "list") → Rdd K H v .lst
  | dct {v : V} : TyX K H v (.type "dict") → Rdd K H v .dct
inductive RddAll (K : PySem.W.Frag) (H : Hp) : List V → List D → Prop
  | nil : RddAll K H [] []
  | cons {v : V} {vs : List V} {d : D} {ds : List D} : Rdd K H v d → RddAll K H vs ds → RddAll K H (v :: vs) (d :: ds)
end
section
variable {K : PySem.W.Frag} {H H' : Hp}
theorem sqT_ty {a : Addr} {xs : List V} (h : SqT K H a xs) : TyX K H (.ref a) (.type "tuple") := by
  rcases h with (h | ⟨o, h⟩) | ⟨o, its, n, hk, hc, _⟩
  · exact .base (.tup h)
  · exact .fTuple h
  · exact .kTuple hk hc
theorem Rdd.ty {v : V} {d : D} (h : Rdd K H v d) : TyX K H v (.type d.ty) := by
  cases h with
  | non => exact .base .non
  | bl b => exact .base (.bl b)
  | int i => exact .base (.int i)
  | str x => exact .base (.str x)
  | tup hs _ _ => exact sqT_ty hs
  | lst h => exact h
  | dct h => exact h
mutual
theorem Rdd.ex (e : Ex H H') : ∀ (d : D) {v : V}, Rdd K H v d → Rdd K H' v d
  | .non, _, h => by cases h; exact .non
  | .bl b, _, h => by cases h; exact .bl b
  | .int i, _, h => by cases h; exact .int i
  | .str x, _, h => by cases h; exact .str x
  | .tup ds, _, h => by
    cases h with
    | tup hs ha z => exact .tup (e.tup hs) (RddAll.ex e ds ha) z
  | .lst, _, h => by
    cases h with
    | lst q => exact .lst (e.ty q)
  | .dct, _, h => by
    cases h with
    | dct q => exact .dct (e.ty q)
theorem RddAll.ex (e : Ex H H') : ∀ (ds : List D) {vs : List V}, RddAll K H vs ds → RddAll K H' vs ds
  | [], _, h => by cases h; exact .nil
  | d :: ds, _, h => by
    cases h with
    | cons h1 h2 => exact .cons (Rdd.ex e d h1) (RddAll.ex e ds h2)
end
theorem RddAll.length : ∀ {vs : List V} {ds : List D}, RddAll K H vs ds → vs.length = ds.length
  | _, _, .nil => rfl
  | _, _, .cons _ h => by rw [List.length_cons, List.length_cons, h.length]
theorem RddAll.get : ∀ {vs : List V} {ds : List D} {i : Nat} {v : V}, RddAll K H vs ds → vs[i]? = some v → ∃ d, ds[i]? = some d ∧ Rdd K H v d
  | _, _, i, v, .nil, h => by simp at h
  | _, _, 0, v, .cons h1 h2, h => by
    have e := Option.some.inj h
    subst e
    exact ⟨_, rfl, h1⟩
  | _, _, i + 1, v, .cons h1 h2, h => RddAll.get (i := i) h2 (by rw [List.getElem?_cons_succ] at h; exact h)
/-- isinstance(v, t), t a built-in class -/
def isT (a b : String) : Bool := (kitB a b).getD false
def isA (t : String) (d : D) : Bool := isT d.ty t
theorem kit_isA {d : D} {t : String} (h : ∀ s ∈ ["NoneType", "bool", "int", "str", "tuple", "list", "dict"], (kitB s t).isSome = true) : PySem.W.kitOne K (.type d.ty) (.type t) = some (isA t d) := by
  have q : (kitB d.ty t).isSome = true := by
    apply h
    cases d <;> simp [D.ty]
  apply kit_ty
  unfold isA isT
  cases e : kitB d.ty t with
  | none => rw [e] at q; cases q
  | some b => rfl
theorem isA_int (d : D) : isA "int" d = match d with | .bl _ => true | .int _ => true | _ => false := by
  cases d
  · exact (by decide +kernel : isT "NoneType" "int" = false)
  · exact (by decide +kernel : isT "bool" "int" = true)
  · exact (by decide +kernel : isT "int" "int" = true)
  · exact (by decide +kernel : isT "str" "int" = false)
  · exact (by decide +kernel : isT "tuple" "int" = false)
  · exact (by decide +kernel : isT "list" "int" = false)
  · exact (by decide +kernel : isT "dict" "int" = false)
theorem isA_bool (d : D) : isA "bool" d = match d with | .bl _ => true | _ => false := by
  cases d
  · exact (by decide +kernel : isT "NoneType" "bool" = false)
  · exact (by decide +kernel : isT "bool" "bool" = true)
  · exact (by decide +kernel : isT "int" "bool" = false)
  · exact (by decide +kernel : isT "str" "bool" = false)
  · exact (by decide +kernel : isT "tuple" "bool" = false)
  · exact (by decide +kernel : isT "list" "bool" = false)
  · exact (by decide +kernel : isT "dict" "bool" = false)
theorem isA_tuple (d : D) : isA "tuple" d = match d with | .tup _ => true | _ => false := by
  cases d
  · exact (by decide +kernel : isT "NoneType" "tuple" = false)
  · exact (by decide +kernel : isT "bool" "tuple" = false)
  · exact (by decide +kernel : isT "int" "tuple" = false)
  · exact (by decide +kernel : isT "str" "tuple" = false)
  · exact (by decide +kernel : isT "tuple" "tuple" = true)
  · exact (by decide +kernel : isT "list" "tuple" = false)
  · exact (by decide +kernel : isT "dict" "tuple" = false)
end
/-! ### comprehensions whose turns change nothing that stood: item i gives the i-th of ys (none: it is left out) -/
theorem same_off {D : Addr} {H H' : Hp} (h : Off D H H') (n : H D = none) : Same H H' := fun b o e => h b o (ne_of_none e n) e
theorem lcT {K : PySem.W.Frag} {a : Addr} {xs : List V} {g : TG} {tt : TT} {te : TE} {vs : List Nat} {σ : L2.St} {H1 : Hp} {D : Addr} {Qd : Hp → Prop} (ys : List (Option V)) (hlen : ys.length = xs.length) (hz : xs.length ≤ 100000) (hT : SqT K H1 a xs) (hD : H1 D = none)
    (hs : ∀ (i : Nat) (x : V) (H : Hp) (Q : VK) (Z : Hp → Prop), xs[i]? = some x → Same H1 H → (∀ y H', ys[i]? = some (some y) → Same H H' → Q y H') → (∀ H', ys[i]? = some none → Same H H' → Z H') →
      g x (wipe σ vs) H fun σ2 H2 => wipe σ2 vs = wipe σ vs ∧ tt σ2 H2 fun b H3 => if b = true then te σ2 H3 Q else Z H3)
    (hd : ∀ H, Same H1 H → H D = some (.lst (ys.filterMap id)) → Qd H) :
    ∃ W : Nat → Nat → Hp → Prop, (∃ m, W 0 m (upd H1 D (.lst []))) ∧ ∀ i m H, W i m H →
      ((Itt K a).stop i H ∧ Qd H) ∨ ((Itt K a).go i H ∧ ∃ Nx : Hp → Prop, (∀ H', Nx H' → ∃ m', m' < m ∧ W (i + 1) m' H') ∧ ∀ x H', (Itt K a).yld i H x H' → g x (wipe σ vs) H' fun σ2 H2 => wipe σ2 vs = wipe σ vs ∧ tt σ2 H2 fun b H3 =>
        if b = true then te σ2 H3 fun y H4 => ∃ acc, H4 D = some (.lst acc) ∧ acc.length < sizeLine ∧ Nx (upd H4 D (.lst (acc ++ [y]))) else Nx H3) := by
  have acc_len : ∀ i, ((ys.take i).filterMap id).length < sizeLine := fun i => by
    have h1 := List.length_filterMap_le id (ys.take i)
    have h2 : (ys.take i).length ≤ ys.length := by rw [List.length_take]; omega
    have h3 : sizeLine = 16777216 := sizeLine_eq
    omega
  refine lc_tup (fun i H => Off D H1 H ∧ H D = some (.lst ((ys.take i).filterMap id))) ⟨.put, upd_same⟩ (fun i H _ ⟨h, _⟩ => (Ex.same (same_off h hD)).tup hT) (fun i x H hx ⟨ho, hl⟩ => ?_) (fun H ⟨ho, hl⟩ => ?_)
  · have hi : i < xs.length := (List.getElem?_eq_some_iff.mp hx).1
    refine hs i x H _ _ hx (same_off ho hD) (fun y H' hy sm => ⟨_, sm _ _ hl, acc_len i, ?_, ?_⟩) (fun H' hy sm => ⟨?_, ?_⟩)
    · exact (ho.trans (.same sm)).trans .put
    · rw [upd_same, List.take_add_one, hy, List.filterMap_append]
      rfl
    · exact ho.trans (.same sm)
    · rw [sm _ _ hl, List.take_add_one, hy, List.filterMap_append]
      simp
  · refine hd H (same_off ho hD) ?_
    rw [hl, ← hlen, List.take_length]
end Sl

set_option Elab.async false
set_option linter.all false
set_option maxRecDepth 100000
set_option maxHeartbeats 1000000
namespace Sl
open PySem PySem.Spec PyProof.Rows L2
/-! ### more rules: a list takes a tuple's items; tuples repeated any number of times -/
theorem extT (l : Addr) (xs : Array Value) (n : Nat) (b : Addr) (ys : Array Value) (m : Nat) (dd : Option Addr) (sl : Array (Option Value)) (a0 : ¬(!xs.isEmpty && Builtin.List.listTooLong (xs.size + ys.size)) = true) (a1 : xs.size ≤ sizeLine)
    (a2 : (xs ++ ys).size ≤ sizeLine + 1) :
    Meets (Builtin.«list.extend» ⟨[.ref l, .ref b], []⟩) (fun _ R z => z.heap.get? l = some { cls := .type "list", dict := none, data := .seq xs n, slots := #[] } ∧
      z.heap.get? b = some { cls := .type "tuple", dict := dd, data := .seq ys m, slots := sl } ∧ R (.ok (.ret Value.none)) { z with heap := z.heap.update l (Obj.mapSeq fun x => x ++ ys), toks := z.toks }) := by
  refine .of_wp fun prog w A R z h => ?_
  obtain ⟨hp, g, d, tk, os⟩ := z
  obtain ⟨hl, hb, h⟩ := h
  have f1 := AutoSeq1.idx_int
  have f2 := AutoSeq1.sub_tuple_tuple
  have f3 := AutoSeq1.sub_list_list
  have f4 := AutoSeq1.sub_tuple_list
  have f5 := AutoSeq1.sub_list_tuple
  wp_walk using (wpAny_updateSeq hl rfl (hz := a1) (_hz' := a2)), wpAny_loadPart' hl, wpAny_loadPart' hb
  exact ⟨_, rfl, h⟩
section
variable {X : Cx}
def rExtT (K : PySem.W.Frag) : V → List V → Hp → VK → Prop := fun x vs H Q => ∃ l b xs zs, x = .ref l ∧ vs = [.ref b] ∧ H l = some (.lst xs) ∧ SqT K H b zs ∧ xs.length + zs.length ≤ sizeLine ∧ Q .non (upd H l (.lst (xs ++ zs)))
theorem mt_extendT : MtM X "list.extend" (rExtT X.K) := by
  intro pins z σ G x vs v us Q I rx rv h
  obtain ⟨l, b, xs, zs, rfl, rfl, hG, hB, hz, q⟩ := h
  cases rx
  obtain ⟨u, rfl, ru⟩ := rv.one
  cases ru
  obtain ⟨y, its, n, r, hl, e⟩ := I.lstM hG
  obtain ⟨its2, r2, ⟨⟨cls, dd, data, sl⟩, ho, hc, n2, hd⟩, hs⟩ := I.tuple hB
  simp only at hc hd
  subst hc hd
  have l2 := r2.length
  have sz : its.toArray.size + its2.toArray.size ≤ sizeLine := by
    simp only [List.size_toArray]
    omega
  have short : ¬ (!its.toArray.isEmpty && Builtin.List.listTooLong (its.toArray.size + its2.toArray.size)) = true := by
    rw [notLongL sz]
    simp
  refine call_meets F.slot_list_extend ⟨_, e, rfl⟩ F.entry_list_extend (F.args_list_extend_2 _ _) (extT l its.toArray n b its2.toArray n2 dd sl short (by simp only [List.size_toArray]; omega) (by rw [Array.size_append]; omega)) ⟨e, ho, ?_⟩
  refine ⟨.non, _, I.lset (its' := its ++ its2) hG e (by simp) (r.append r2) ?_, rfl, q⟩
  rw [List.length_append]
  exact hz
theorem mulT1 (l : Addr) (xs : Array Value) (n : Nat) (dd : Option Addr) (sl : Array (Option Value)) (u : Tok) :
    Meets (Builtin.«tuple.__mul__» ⟨[.ref l, .int 1 u], []⟩) (fun _ R z => z.heap.get? l = some { cls := .type "tuple", dict := dd, data := .seq xs n, slots := sl } ∧ R (.ok (.ret (Value.ref l))) z) := by
  refine .of_wp fun prog w A R z h => ?_
  obtain ⟨hp, g, d, tk, os⟩ := z
  obtain ⟨hl, h⟩ := h
  have f1 := AutoSeq1.idx_int
  have c1 : (xs.isEmpty || (1 : Int) == 1) = true := by simp
  wp_walk using wpAny_loadPart' hl
  exact ⟨_, rfl, h⟩
theorem mulT0 (l : Addr) (xs : Array Value) (n : Nat) (dd : Option Addr) (sl : Array (Option Value)) (u : Tok) (hne : xs.isEmpty = false) :
    Meets (Builtin.«tuple.__mul__» ⟨[.ref l, .int 0 u], []⟩) (fun _ R z => z.heap.get? l = some { cls := .type "tuple", dict := dd, data := .seq xs n, slots := sl } ∧
      R (.ok (.ret (Value.ref z.heap.objs.size))) { z with heap := z.heap.push { cls := Value.type "tuple", data := Data.seq #[] }, toks := z.toks }) := by
  refine .of_wp fun prog w A R z h => ?_
  obtain ⟨hp, g, d, tk, os⟩ := z
  obtain ⟨hl, h⟩ := h
  have f1 := AutoSeq1.idx_int
  wp_walk using wpAny_loadPart' hl
  exact ⟨_, rfl, h⟩
/-- a tuple with items, repeated 0, 1 or more times -/
def rRepA (K : PySem.W.Frag) : R2 := fun x y G Q => ∃ l k xs, x = .ref l ∧ y = .int k ∧ SqT K G l xs ∧ xs ≠ [] ∧ 0 ≤ k ∧ k ≤ 1000 ∧ xs.length ≤ 1000 ∧
  (k = 1 → Q (.ref l) G) ∧ (k ≠ 1 → ∀ p, G p = none → Q (.ref p) (upd G p (.tup (List.replicate k.toNat xs).flatten)))
theorem op_repTA : OpR X (binaryOp .Mult) (rRepA X.K) := by
  intro pins z σ G x y v u Q I rx ry h
  obtain ⟨l, k, xs, rfl, rfl, hT, hne, h0, h1, hz, q1, q2⟩ := h
  by_cases k2 : 2 ≤ k
  · exact op_repT pins z σ G _ _ _ _ Q I rx ry ⟨l, k, xs, rfl, rfl, hT, hne, k2, h1, hz, q2 (by omega)⟩
  · cases rx
    obtain ⟨t, rfl⟩ := ry
    obtain ⟨its, r, ⟨⟨cls, dd, data, sl⟩, ho, hc, n, hd⟩, hs⟩ := I.tuple hT
    simp only at hc hd
    subst hc hd
    have hn : its.toArray.isEmpty = false := by
      cases its with
      | nil =>
        have e := r.length
        exact absurd (List.eq_nil_of_length_eq_zero e) hne
      | cons a b => rfl
    rcases (by omega : k = 0 ∨ k = 1) with rfl | rfl
    · refine wpAny_binaryOp_repeat_ref (T := "tuple") (U := "int") (by decide) ⟨_, ho, rfl⟩ (fun s' => typeIs_int s' 0 t) noFill_tuple_mul F.fills_int_mul F.slot_int_rmul repeat_tuple F.slot_int_index.lookup
        (call_meets F.slot_int_rmul (typeIs_int z 0 t) F.entry_int_rmul (F.args_int_rmul_2 _ _) (int_rmul_tuple 0 t l its.toArray n dd sl)
          ⟨ho, rfl, ⟨_, ho, rfl⟩, call_meets F.slot_tuple_mul ⟨_, ho, rfl⟩ F.entry_tuple_mul (F.args_tuple_mul_2 _ _) (mulT0 l its.toArray n dd sl t hn) ⟨ho, ?_⟩⟩)
      refine ⟨.ref z.heap.objs.size, _, I.laid (t' := z.toks) (o := .tup []) (fun b ob q => Heap.get?_push_of_some _ q) (Nat.le_refl _) ?_, rfl, q2 (by omega) _ (I.hok.fresh (Nat.le_refl _))⟩
      exact ⟨Nat.zero_le _, [], .nil, IsTup.new _ _⟩
    · refine wpAny_binaryOp_repeat_ref (T := "tuple") (U := "int") (by decide) ⟨_, ho, rfl⟩ (fun s' => typeIs_int s' 1 t) noFill_tuple_mul F.fills_int_mul F.slot_int_rmul repeat_tuple F.slot_int_index.lookup
        (call_meets F.slot_int_rmul (typeIs_int z 1 t) F.entry_int_rmul (F.args_int_rmul_2 _ _) (int_rmul_tuple 1 t l its.toArray n dd sl)
          ⟨ho, rfl, ⟨_, ho, rfl⟩, call_meets F.slot_tuple_mul ⟨_, ho, rfl⟩ F.entry_tuple_mul (F.args_tuple_mul_2 _ _) (mulT1 l its.toArray n dd sl t) ⟨ho, ?_⟩⟩)
      exact ⟨.ref l, G, I, rfl, q1 rfl⟩
end
end Sl

set_option Elab.async false
set_option linter.all false
set_option maxRecDepth 100000
set_option maxHeartbeats 1000000
/-! ## The first field of an exception of one's own, whatever built-in class it comes from -/
namespace PySem
namespace ErX
open Builtin Builtin.ObjectAttr
open PySem.W PySem.Calls PyProof.Rows PySem.HandSPX
section
variable {prog : Program} {w : World} {A : Around} {R : Result → Shared → Prop} {hp : Heap} {g : Array GenState} {d : Drawn} {t : Nat} {os : OsState}
theorem osa_first {K : Frag} {f : Str} {tk : Tok} {v : Value} {x C : Addr} {fv : Array Value} {cd : ClassData} (inK : K.In hp) (ox : hp.get? x = some { cls := .ref C, data := .fields fv }) (cC : clsIn K C = some cd)
    (pas : ∀ self, refuseLoop self "__setattr__" cd.mro = pure ()) (ne : cd.mro.isEmpty = false) (ob : cd.mro.contains (.type "object") = true) (hd : cd.hasDict = true) (nf : findIn K (.ref C) f = some none)
    (q : ∀ h' tk' dx, (∀ b o, b ≠ x → hp.get? b = some o → h'.get? b = some o) → hp.objs.size ≤ dx → dx ≠ x → h'.get? x = some { cls := .ref C, dict := some dx, data := .fields fv } →
      h'.Ns1 dx (fun y => if y = f then some v else none) → R (.ok (.ret .none)) ⟨h', g, d, tk', os⟩) :
    codeAny (model prog w) A (.call (.builtin "object.__setattr__") ⟨[.ref x, .str f tk, v], []⟩) R ⟨hp, g, d, t, os⟩ := by
  have xs : x ≠ hp.objs.size := Nat.ne_of_lt (Heap.lt_size ox)
  have inst : InstAt hp x { cls := .ref C, data := .fields fv } C none := ⟨ox, rfl, rfl, trivial⟩
  have SO := F.store_object
  have is_obj : Looks (model prog w) hp (isInstance (.ref x) (.type "object")) true :=
    inst.type.andThen (looks_mroIn inK (by unfold mroIn; rw [cC, Option.bind_some, if_neg (by rw [ne]; decide), ob]))
  apply codeAny_call_builtin SO.slot.plain SO.entry
  apply @check_slot (model prog w) _ _ ⟨hp, g, d, t, os⟩ "object.__setattr__" "object" "__setattr__" (.ref x) [.str f tk, v] [] _ SO.kind SO.split is_obj (SO.args (.ref x) (.str f tk) v)
  have its_mro : Looks (model prog w) hp (mroOf (.ref C)) cd.mro := (looks_clsIn inK cC).andThen .now
  have its_cls : Looks (model prog w) hp (classData C) cd := looks_clsIn inK cC
  have nobody : Looks (model prog w) hp (storeTaker? none) none := .now
  rw [osa_eq, refuse_eq]
  refine wpAny_bind (wpAny_bind (inst.type.at (wpAny_bind (its_mro.at ?one))))
  case' one => skip
  rw [pas]
  refine wpAny_pure (wpAny_bind (inst.type.at (wpAny_bind ((looks_findIn inK nf).at (wpAny_bind (nobody.at ?_))))))
  show wpAny _ _ (storeInOwnDict (.ref x) (.ref C) (.str f tk) f v false) _ _ _
  obtain ⟨c1, c2, c3, c4, c5, c6, c7, c8, c9, c10, c11⟩ := cd
  dsimp only at hd
  subst hd
  unfold storeInOwnDict ownDictForStores
  repeat (first | with_reducible refine store_in_new ?_ ?_ | with_reducible refine wpAny_loadPart_at ox ?_ | with_reducible refine its_cls.at ?_ | wp_step)
  · exact ⟨_, #[], _, (Heap.get?_update_ne _ _ _ _ xs.symm).trans (Heap.get?_push_at rfl rfl), rfl, fun e he => absurd he (by simp), fun _ => rfl⟩
  · intro h' tk' ns sb
    have ox1 : (hp.push { cls := .type "dict", data := .dict #[] }).get? x = some { cls := .ref C, data := .fields fv } := Heap.get?_push_of_some _ ox
    apply q h' tk' hp.objs.size _ (Nat.le_refl _) xs.symm _ ns
    · intro b o nb e
      rw [sb.2 b (Nat.ne_of_lt (Heap.lt_size e)), Heap.get?_update_ne _ _ _ _ nb]
      exact Heap.get?_push_of_some _ e
    · rw [sb.2 x xs]
      exact Heap.get?_update_self _ ox1 rfl
end
end ErX
end PySem

set_option Elab.async false
set_option linter.all false
set_option maxRecDepth 100000
set_option maxHeartbeats 1000000
/-! ## Comparisons with empty sequences, repr of data, a law's head -/
namespace Sl
open PySem PySem.Spec PyProof.Rows L2
/-! ### t == (), l == [] : only whether anything is in it -/
theorem eqT0 (l : Addr) (xs : Array Value) (n : Nat) (b : Addr) (m : Nat) (dd d2 : Option Addr) (sl s2 : Array (Option Value)) :
    Meets (Builtin.«tuple.__eq__» ⟨[.ref l, .ref b], []⟩) (fun _ R z => z.heap.get? l = some { cls := .type "tuple", dict := dd, data := .seq xs n, slots := sl } ∧ z.heap.get? b = some { cls := .type "tuple", dict := d2, data := .seq #[] m, slots := s2 } ∧
      R (.ok (.ret (.bool (decide (xs.size = 0))))) z) := by
  refine .of_wp fun prog w A R z h => ?_
  obtain ⟨hp, g, d, tk, os⟩ := z
  obtain ⟨hl, hb, h⟩ := h
  have f2 := AutoSeq1.sub_tuple_tuple
  obtain ⟨ys⟩ := xs
  cases ys with
  | nil =>
    wp_walk using wpAny_loadPart' hl, wpAny_loadPart' hb
    exact ⟨_, rfl, h⟩
  | cons y ys =>
    wp_walk using wpAny_loadPart' hl, wpAny_loadPart' hb
    refine ⟨_, rfl, ?_⟩
    have e1 : decide ((⟨y :: ys⟩ : Array Value).size = 0) = false := decide_eq_false (by simp)
    rw [e1] at h
    have e2 : Builtin.Tuple.tupleCompareSizes CmpOp.Eq (⟨y :: ys⟩ : Array Value).size (#[] : Array Value).size = .bool false := by
      unfold Builtin.Tuple.tupleCompareSizes
      simp
    rw [e2]
    exact h
theorem eqL0 (l : Addr) (xs : Array Value) (n : Nat) (b : Addr) (m : Nat) (dd d2 : Option Addr) (sl s2 : Array (Option Value)) (hne : (xs.size != 0) = true) :
    Meets (Builtin.«list.__eq__» ⟨[.ref l, .ref b], []⟩) (fun _ R z => z.heap.get? l = some { cls := .type "list", dict := dd, data := .seq xs n, slots := sl } ∧ z.heap.get? b = some { cls := .type "list", dict := d2, data := .seq #[] m, slots := s2 } ∧
      R (.ok (.ret (.bool false))) z) := by
  refine .of_wp fun prog w A R z h => ?_
  obtain ⟨hp, g, d, tk, os⟩ := z
  obtain ⟨hl, hb, h⟩ := h
  have f2 := AutoSeq1.sub_list_list
  have e0 : (xs.size != (#[] : Array Value).size) = true := hne
  wp_walk using wpAny_loadPart' hl, wpAny_loadPart' hb
  exact ⟨_, rfl, h⟩
section
variable {X : Cx}
/-- t == () -/
def rEqT0 (K : PySem.W.Frag) : R2 := fun x y G Q => ∃ a b xs, x = .ref a ∧ y = .ref b ∧ SqT K G a xs ∧ SqT K G b [] ∧ Q (.bl xs.isEmpty) G
theorem op_eqT0 (hu : X.A.units < cLine) : OpR X (compareOp .Eq) (rEqT0 X.K) := by
  intro pins z σ G x y v u Q I rx ry h
  obtain ⟨a, b, xs, rfl, rfl, ha, hb, q⟩ := h
  cases rx
  cases ry
  obtain ⟨its, r, ⟨⟨c1, dd, data, sl⟩, ho, hc, n, hd⟩, _⟩ := I.tuple ha
  obtain ⟨its2, r2, ⟨⟨c2, d2, data2, s2⟩, ho2, hc2, n2, hd2⟩, _⟩ := I.tuple hb
  simp only at hc hd hc2 hd2
  subst hc hd hc2 hd2
  cases r2
  have e : decide (its.toArray.size = 0) = xs.isEmpty := by
    rw [List.size_toArray, ← r.length]
    cases xs <;> rfl
  have m := eqT0 a its.toArray n b n2 dd d2 sl s2
  rw [e] at m
  exact wpAny_richCompare_same_room (op := .Eq) ⟨_, ho, rfl⟩ ⟨_, ho2, rfl⟩ F.slot_tuple_eq (call_meets F.slot_tuple_eq ⟨_, ho, rfl⟩ F.entry_tuple_eq (F.args_tuple_eq_2 _ _) m
    ⟨ho, ho2, (fun q => nomatch q), .bl _, G, I, rfl, q⟩) hu
/-- l == [] -/
def rEqL0 (K : PySem.W.Frag) : R2 := fun x y G Q => ∃ a b xs, x = .ref a ∧ y = .ref b ∧ SqL K G a xs ∧ SqL K G b [] ∧ Q (.bl xs.isEmpty) G
theorem op_eqL0 (hu : X.A.units + 64 < cLine) : OpR X (compareOp .Eq) (rEqL0 X.K) := by
  intro pins z σ G x y v u Q I rx ry h
  obtain ⟨a, b, xs, rfl, rfl, ha, hb, q⟩ := h
  cases xs with
  | nil => exact op_eqD hu pins z σ G _ _ _ _ Q I rx ry ⟨.list [], .list [], .lst ha .nil, .lst hb .nil, rfl, rfl, q⟩
  | cons x0 xs =>
    cases rx
    cases ry
    obtain ⟨its, r, p1, _⟩ := I.list ha
    obtain ⟨its2, r2, p2, _⟩ := I.list hb
    obtain ⟨⟨c1, dd, data, sl⟩, ho, hc, n, hd⟩ := p1.isList
    obtain ⟨⟨c2, d2, data2, s2⟩, ho2, hc2, n2, hd2⟩ := p2.isList
    simp only at hc hd hc2 hd2
    subst hc hd hc2 hd2
    cases r2
    have hne : (its.toArray.size != 0) = true := by
      rw [List.size_toArray, ← r.length]
      rfl
    exact wpAny_richCompare_same_room (op := .Eq) ⟨_, ho, rfl⟩ ⟨_, ho2, rfl⟩ F.slot_list_eq (call_meets F.slot_list_eq ⟨_, ho, rfl⟩ F.entry_list_eq (F.args_list_eq_2 _ _) (eqL0 a its.toArray n b n2 dd d2 sl s2 hne)
      ⟨ho, ho2, (fun q => nomatch q), .bl _, G, I, rfl, q⟩) (by omega)
/-! ### repr of data -/
/-- repr(v), v data of a bounded depth whose text is not too long -/
def rRepr (K : PySem.W.Frag) : List V → Hp → VK → Prop := fun xs H Q => ∃ v d, xs = [v] ∧ Dp K H v d ∧ d.showable = true ∧ d.depth ≤ 40 ∧ d.shown.length ≤ sizeLine ∧ Q (.str d.shown) H
theorem noDict {K : PySem.W.Frag} {H : Hp} : ∀ (d : PyData) (v : V), Dp K H v d → d.hasDict = false
  | .none, _, _ => by simp only [PyData.hasDict]
  | .bool _, _, _ => by simp only [PyData.hasDict]
  | .int _, _, _ => by simp only [PyData.hasDict]
  | .str _, _, _ => by simp only [PyData.hasDict]
  | .list ds, _, h => by
    cases h with
    | lst _ ha =>
      simp only [PyData.hasDict]
      exact go ds _ ha
  | .tuple ds, _, h => by
    cases h with
    | tup _ ha =>
      simp only [PyData.hasDict]
      exact go ds _ ha
  | .dict _, _, h => by cases h
where
  go : ∀ (ds : List PyData) (vs : List V), DpAll K H vs ds → PyData.hasDictAll ds = false
  | [], _, _ => by simp only [PyData.hasDictAll]
  | d :: ds, _, h => by
    cases h with
    | cons h1 h2 =>
      simp only [PyData.hasDictAll]
      rw [noDict d _ h1, go ds _ h2]
      rfl
theorem call_repr {k : Nat} (hG : X.A.guards = some []) (hr : Room k X.A) : CallR X (.builtin "repr") (rRepr X.K) := by
  intro pins z σ H xs us Q I r h
  obtain ⟨v, d, rfl, hd, hs, hdp, hz, q⟩ := h
  obtain ⟨u, rfl, ru⟩ := vals1 r
  have hu := hr.units
  cases hd with
  | non =>
    cases ru
    exact PySem.P.repr_of_none ⟨.str _, H, I.tok _, ⟨_, rfl⟩, q⟩
  | bl b =>
    cases ru
    exact PySem.P.repr_of_bool ⟨.str _, H, I.tok _, ⟨_, rfl⟩, by simpa only [PyData.shown] using q⟩
  | int i =>
    obtain ⟨t, rfl⟩ := ru
    exact PySem.P.repr_of_int (of_decide_eq_true (by simpa only [PyData.showable] using hs)) ⟨.str _, H, I.tok _, ⟨_, rfl⟩, by simpa only [PyData.shown] using q⟩
  | str x =>
    obtain ⟨t, rfl⟩ := ru
    simp only [PyData.shown] at q hz
    exact PySem.P.repr_of_str ⟨.str _, H, I.tok _, ⟨_, rfl⟩, q⟩ hz
  | @lst a ys ds h1 h2 =>
    cases ru
    obtain ⟨as, rd⟩ := Dp.reads I (.list ds) (.ref a) (.ref a) (.lst h1 h2) rfl
    refine repr_of_reads' rd hs (PyData.noDict_hsm (noDict (.list ds) (.ref a) (.lst h1 h2))) hG (by omega) (fun _ _ e => e) (fun h' u tk hk => ?_) hz
    exact ⟨.str _, H, I.kept hk, ⟨u, rfl⟩, q⟩
  | @tup a ys ds h1 h2 =>
    cases ru
    obtain ⟨as, rd⟩ := Dp.reads I (.tuple ds) (.ref a) (.ref a) (.tup h1 h2) rfl
    refine repr_of_reads' rd hs (PyData.noDict_hsm (noDict (.tuple ds) (.ref a) (.tup h1 h2))) hG (by omega) (fun _ _ e => e) (fun h' u tk hk => ?_) hz
    exact ⟨.str _, H, I.kept hk, ⟨u, rfl⟩, q⟩
end
end Sl

set_option Elab.async false
set_option linter.all false
set_option maxRecDepth 100000
set_option maxHeartbeats 1000000
/-! ## A law's head, from a promise that is kept where no repr is under way -/
namespace Sl
open PySem PySem.Spec PyProof.Rows L2
theorem law_callG {P : Program} {w : World} {K : PySem.W.Frag} {mg mb : Str → Option Value} {k : Nat} {fa a : Addr} {fd : FuncData} {x : Str} {sp : Sp} {z : Shared} {vs : List Value} {ns : List Int}
    (inK : K.In z.heap) (gl : z.heap.Ns mainGlobals mg) (bl : z.heap.Ns builtinsNs mb) (bb : ∀ x : Str, x ≠ "__name__" → mb x = bootBuiltins x) (lim : z.heap.NoLimit) (gs : z.gens = #[])
    (oa : z.heap.get? a = some { cls := .type "list", data := .seq vs.toArray }) (hi : IntsAre vs ns) (hl : ns.length ≤ sizeLine) (hr : Room k callerA)
    (F : ∀ base : Heap, K.In base → base.Ns mainGlobals mg → FnG P w K mg base (L2.CX P w) k fa fd [x] sp) (bind : ∀ (s : Shared) (u : Value), BindsTo s fd ⟨[u], []⟩ [(x, u)])
    (hsp : ∀ G : Hp, Only G → SqL K G a (ns.map V.int) → sp [.ref a] G (fun v _ => v = .bl true) fun _ _ _ => False) :
    codeAny (model P w) callerA (.call (.ref fa) ⟨[.ref a], []⟩) (fun r s' => r = .ok (.ret (.bool true)) ∧ OldK z.heap s'.heap ∧ s'.os = z.os ∧ AllBare s'.gens) z := by
  have items := vals_ints hi
  have count := hi.length
  have main : ∀ G : Hp, Only G → SqL K G a (ns.map V.int) → HOk P w G z.heap → (∀ b, G b ≠ none → b = a) → (G a ≠ none → K.lookup a = none) →
      codeAny (model P w) callerA (.call (.ref fa) ⟨[.ref a], []⟩) (fun r s' => r = .ok (.ret (.bool true)) ∧ OldK z.heap s'.heap ∧ s'.os = z.os ∧ AllBare s'.gens) z := by
    intro G only sq ok one notK
    have plain_of : ∀ {b : Addr} {o : Obj} {es : Array DictEntry} {ep : Nat}, z.heap.get? b = some o → o.data = .dict es ep → G b = none := by
      intro b o es ep e dt
      cases q : G b with
      | none => rfl
      | some u =>
        have e1 : b = a := one b (by simp [q])
        rw [e1, oa] at e
        cases e
        exact absurd (show Data.seq vs.toArray _ = Data.dict es ep from dt) (fun y => nomatch y)
    have ns_of : ∀ {b : Addr} {m : Str → Option Value}, z.heap.Ns b m → (hidT z.heap G).Ns b m := by
      intro b m h
      obtain ⟨o, es, ep, e, dt, r⟩ := h
      exact ⟨o, es, ep, hidT_get e (plain_of e dt), dt, r⟩
    have inB : K.In (hidT z.heap G) := by
      intro b o e
      apply hidT_get (inK b o e)
      cases q : G b with
      | none => rfl
      | some u =>
        have e1 : b = a := one b (by simp [q])
        subst e1
        rw [notK (by simp [q])] at e
        cases e
    have noLim : (hidT z.heap G).NoLimit := by
      obtain ⟨mc, h1, h2⟩ := lim
      exact ⟨mc, ns_of h1, h2⟩
    have md : Mod K mg (hidT z.heap G) := { kin := inB, glob := ns_of gl, blt := ⟨mb, ns_of bl, bb⟩, nolimit := noLim }
    have e0 : Env0 P w K mg (hidT z.heap G) callerA [] z G :=
      { frames := rfl, mod := md, bs := fun b o e => of_hidT e, bsz := Nat.le_of_eq (hidT_size _ _), funs := trivial, frf := fun b hb => absurd (show b ∈ ([] : List Addr) from hb) (by simp), hok := ok, bare := .of_eq gs }
    apply codeAny_mono ((F _ inB (ns_of gl)).goes callerA rfl [] z G ⟨[.ref a], []⟩ [.ref a] [.ref a] _ _ hr e0 (bind z (.ref a)) (.cons rfl .nil) (hsp G only sq))
    intro r s' h
    match r, h with
    | .error e, h =>
      obtain ⟨_, _, _, _, _, _, _, _, _, _, _, _, y⟩ := h
      exact y.elim
    | .ok (.ret u), ⟨v, G', os, bare, un, ok', r', q⟩ =>
      have q1 : v = .bl true := q
      subst q1
      obtain rfl : u = Value.bool true := r'
      refine ⟨rfl, OldK.of_keep ?_, os, bare⟩
      intro b o e
      cases y : G b with
      | none => exact un.keep b o e y (by intro q; exact absurd (show b ∈ ([] : List Addr) from q) (by simp)) (by simp)
      | some u =>
        rcases only b with y2 | ⟨ob, xs, y2⟩
        · rw [y] at y2
          cases y2
        · obtain ⟨e1, _⟩ := ok b _ y2
          obtain ⟨e2, _⟩ := ok' b _ (un.frzs b ob _ y2)
          rw [e] at e1
          cases e1
          exact e2
  cases hk : K.lookup a with
  | some o =>
    have e := inK a o hk
    rw [oa] at e
    cases e
    refine main (fun _ => none) (fun _ => .inl rfl) (.inr ⟨_, vs.toArray, _, hk, rfl, rfl, rfl, ?_, by simpa using items⟩) (fun b u y => nomatch (show (none : Option HO) = some u from y)) (fun b y => absurd rfl y) fun y => absurd rfl y
    rw [List.size_toArray, count]
    exact hl
  | none =>
    have at_a : ∀ b, b ≠ a → (fun b => if b = a then some (HO.frz { cls := .type "list", data := .seq vs.toArray } (.lst (ns.map V.int))) else none) b = none := fun b hb => if_neg hb
    refine main (fun b => if b = a then some (.frz { cls := .type "list", data := .seq vs.toArray } (.lst (ns.map V.int))) else none) ?_ (.inl (.inr ⟨{ cls := .type "list", data := .seq vs.toArray }, if_pos rfl⟩)) ?_ ?_ fun _ => hk
    · intro b
      by_cases hb : b = a
      · exact .inr ⟨_, _, if_pos hb⟩
      · exact .inl (if_neg hb)
    · intro b u y
      by_cases hb : b = a
      · subst hb
        have y' := (if_pos rfl).symm.trans y
        cases y'
        exact ⟨oa, by rw [List.length_map]; exact hl, vs, _, items, oa⟩
      · rw [at_a b hb] at y
        cases y
    · intro b y
      by_cases hb : b = a
      · exact hb
      · exact absurd (at_a b hb) y
/-- the goal that the head's word leaves, from such a promise of the law -/
theorem walkG {l : PySem.W.OpenLaw} {n k : Nat} {q : Program} {loose : List Str} {XP : (Str → Option Value) → Heap → Prop} {YP : World → Heap → Prop} {d : DefRec} {K : Params → PySem.W.Frag} {sp : World → Sp} {x : Str}
    (hn : l.most = some n) (hn2 : n ≤ sizeLine) (hdf : d.params.defaults = []) (hr : Room k callerA) (hY : ∀ (w : World) (h : Heap), YP w h → (K w.params).In h)
    (F : ∀ (w : World) (mg : Str → Option Value) (fa : Addr) (h : Heap), (K w.params).In h → h.Ns mainGlobals mg → mg d.name = some (.ref fa) →
      ∃ fd : FuncData, (∀ (s : Shared) (u : Value), BindsTo s fd ⟨[u], []⟩ [(x, u)]) ∧
        ∀ base : Heap, (K w.params).In base → base.Ns mainGlobals mg → FnG l.prog w (K w.params) mg base (L2.CX l.prog w) k fa fd [x] (sp w))
    (hsp : ∀ (w : World) (G : Hp) (a : Addr) (ns : List Int), ns.length ≤ n → Only G → SqL (K w.params) G a (ns.map V.int) → sp w [.ref a] G (fun v _ => v = .bl true) fun _ _ _ => False) :
    PySem.W.WalkO q loose XP YP l.row.toRowW d [] (fun f vs => PySem.call f vs) := by
  apply Att.attach_call hn hdf
  intro w s₀ z mg mb fa o pm cd doc a vs ns G Y ho hd hcd hmg hobj hints hlen hg
  have inK := hY w _ Y
  obtain ⟨fd, hb, hF⟩ := F w mg fa _ inK G.T.g hmg
  exact law_callG inK G.T.g G.T.b G.T.builtins G.T.nolimit hg hobj hints (Nat.le_trans hlen hn2) hr hF hb (fun H hO hS => hsp w H a ns hlen hO hS)
end Sl

set_option Elab.async false
set_option linter.all false
set_option maxRecDepth 100000
set_option maxHeartbeats 400000
/-! ## Values without lists and dicts as data: their texts have a bounded length -/
namespace Sl
open PySem PySem.Spec PyProof.Rows L2
mutual
def D.py : D → PyData
  | .non => .none
  | .bl b => .bool b
  | .int i => .int i
  | .str x => .str x
  | .tup ds => .tuple (D.pys ds)
  | .lst => .none
  | .dct => .none
def D.pys : List D → List PyData
  | [] => []
  | d :: ds => d.py :: D.pys ds
end
mutual
/-- tuples, bools, none and ints below 2 ^ 128 -/
def D.good : D → Bool
  | .non => true
  | .bl _ => true
  | .int i => decide (i.natAbs.log2 < 128)
  | .tup ds => D.goods ds
  | _ => false
def D.goods : List D → Bool
  | [] => true
  | d :: ds => d.good && D.goods ds
end
mutual
def D.wt : D → Nat
  | .tup ds => D.wts ds + 3
  | _ => 129
def D.wts : List D → Nat
  | [] => 0
  | d :: ds => d.wt + 2 + D.wts ds
end
mutual
def D.dep : D → Nat
  | .tup ds => D.deps ds + 1
  | _ => 0
def D.deps : List D → Nat
  | [] => 0
  | d :: ds => max d.dep (D.deps ds)
end
theorem good_and {d : D} {ds : List D} (h : D.goods (d :: ds) = true) : d.good = true ∧ D.goods ds = true := by
  simp only [D.goods, Bool.and_eq_true] at h
  exact h
theorem goods_of : ∀ {ds : List D}, (∀ d ∈ ds, d.good = true) → D.goods ds = true
  | [], _ => by simp only [D.goods]
  | d :: ds, h => by
    simp only [D.goods, Bool.and_eq_true]
    exact ⟨h d List.mem_cons_self, goods_of fun x hx => h x (List.mem_cons_of_mem _ hx)⟩
theorem goods_mem : ∀ {ds : List D}, D.goods ds = true → ∀ d ∈ ds, d.good = true
  | [], _, _, h => absurd h List.not_mem_nil
  | x :: xs, g, d, h => by
    have := good_and g
    rcases List.mem_cons.mp h with e | e
    · rw [e]
      exact this.1
    · exact goods_mem this.2 d e
section
variable {K : PySem.W.Frag} {H : Hp}
mutual
theorem Rdd.dp : ∀ (d : D) {v : V}, d.good = true → Rdd K H v d → Dp K H v d.py
  | .non, _, _, h => by cases h; simp only [D.py]; exact .non
  | .bl b, _, _, h => by cases h; simp only [D.py]; exact .bl b
  | .int i, _, _, h => by cases h; simp only [D.py]; exact .int i
  | .str x, _, g, _ => by simp [D.good] at g
  | .tup ds, _, g, h => by
    simp only [D.good] at g
    cases h with
    | tup hs ha _ =>
      simp only [D.py]
      exact .tup hs (RddAll.dp ds g ha)
  | .lst, _, g, _ => by simp [D.good] at g
  | .dct, _, g, _ => by simp [D.good] at g
theorem RddAll.dp : ∀ (ds : List D) {vs : List V}, D.goods ds = true → RddAll K H vs ds → DpAll K H vs (D.pys ds)
  | [], _, _, h => by cases h; simp only [D.pys]; exact .nil
  | d :: ds, _, g, h => by
    have g2 := good_and g
    cases h with
    | cons h1 h2 =>
      simp only [D.pys]
      exact .cons (Rdd.dp d g2.1 h1) (RddAll.dp ds g2.2 h2)
end
end
mutual
theorem good_show : ∀ d : D, d.good = true → d.py.showable = true ∧ d.py.canLay0 = true
  | .non, _ => by simp [D.py, PyData.showable, PyData.canLay0]
  | .bl b, _ => by simp [D.py, PyData.showable, PyData.canLay0]
  | .int i, g => by
    simp only [D.good, decide_eq_true_eq] at g
    simp only [D.py, PyData.showable, PyData.canLay0, decide_eq_true_eq, and_true]
    omega
  | .str x, g => by simp [D.good] at g
  | .tup ds, g => by
    simp only [D.good] at g
    simp only [D.py, PyData.showable, PyData.canLay0]
    exact goods_show ds g
  | .lst, g => by simp [D.good] at g
  | .dct, g => by simp [D.good] at g
theorem goods_show : ∀ ds : List D, D.goods ds = true → PyData.showableAll (D.pys ds) = true ∧ PyData.canLayAll0 (D.pys ds) = true
  | [], _ => by simp [D.pys, PyData.showableAll, PyData.canLayAll0]
  | d :: ds, g => by
    have g2 := good_and g
    have h1 := good_show d g2.1
    have h2 := goods_show ds g2.2
    simp only [D.pys, PyData.showableAll, PyData.canLayAll0, Bool.and_eq_true]
    exact ⟨⟨h1.1, h2.1⟩, h1.2, h2.2⟩
end
mutual
theorem dep_py : ∀ d : D, d.py.depth ≤ d.dep
  | .non => by simp [D.py, PyData.depth, D.dep]
  | .bl b => by simp [D.py, PyData.depth, D.dep]
  | .int i => by simp [D.py, PyData.depth, D.dep]
  | .str x => by simp [D.py, PyData.depth, D.dep]
  | .tup ds => by
    simp only [D.py, PyData.depth, D.dep]
    have := deps_py ds
    omega
  | .lst => by simp [D.py, PyData.depth, D.dep]
  | .dct => by simp [D.py, PyData.depth, D.dep]
theorem deps_py : ∀ ds : List D, PyData.depthAll (D.pys ds) ≤ D.deps ds
  | [] => by simp [D.pys, PyData.depthAll, D.deps]
  | d :: ds => by
    simp only [D.pys, PyData.depthAll, D.deps]
    have h1 := dep_py d
    have h2 := deps_py ds
    omega
end
mutual
theorem shown_wt : ∀ d : D, d.good = true → d.py.shown.length ≤ d.wt
  | .non, _ => by
    simp only [D.py, PyData.shown_none, D.wt]
    decide +kernel
  | .bl b, _ => by
    simp only [D.py, PyData.shown_bool, D.wt]
    cases b <;> decide +kernel
  | .int i, g => by
    simp only [D.good, decide_eq_true_eq] at g
    simp only [D.py, PyData.shown_int, D.wt]
    have e := int_text_length_le (k := 128) (by decide) g
    rw [PySem.ofString_length]
    exact e
  | .str x, g => by simp [D.good] at g
  | .tup ds, g => by
    simp only [D.good] at g
    simp only [D.py, D.wt, PyData.shown]
    have h1 := tupleText_len_le (PyData.shownAll (D.pys ds))
    have h2 := shown_wts ds g
    omega
  | .lst, g => by simp [D.good] at g
  | .dct, g => by simp [D.good] at g
theorem shown_wts : ∀ ds : List D, D.goods ds = true → ((PyData.shownAll (D.pys ds)).map (·.length)).sum + 2 * (PyData.shownAll (D.pys ds)).length ≤ D.wts ds
  | [], _ => by simp [D.pys, PyData.shownAll, D.wts]
  | d :: ds, g => by
    have g2 := good_and g
    have h1 := shown_wt d g2.1
    have h2 := shown_wts ds g2.2
    simp only [D.pys, PyData.shownAll, D.wts, List.map_cons, List.sum_cons, List.length_cons]
    omega
end
theorem wts_append : ∀ (a b : List D), D.wts (a ++ b) = D.wts a + D.wts b
  | [], b => by simp [D.wts]
  | d :: ds, b => by
    simp only [List.cons_append, D.wts, wts_append ds b]
    omega
theorem wts_take (k : Nat) (ds : List D) : D.wts (ds.take k) ≤ D.wts ds := by
  have e := wts_append (ds.take k) (ds.drop k)
  rw [List.take_append_drop] at e
  omega
theorem wts_len : ∀ ds : List D, ds.length ≤ D.wts ds
  | [] => by simp [D.wts]
  | d :: ds => by
    have := wts_len ds
    simp only [D.wts, List.length_cons]
    omega
/-- what repr asks of such a value -/
theorem rRepr_of {K : PySem.W.Frag} {H : Hp} {v : V} {d : D} {Q : VK} (r : Rdd K H v d) (g : d.good = true) (hd : d.dep ≤ 40) (hw : d.wt ≤ 1000000) (q : Q (.str d.py.shown) H) : rRepr K [v] H Q := by
  have h1 := dep_py d
  have h2 := shown_wt d g
  have h3 : sizeLine = 16777216 := sizeLine_eq
  exact ⟨v, d.py, rfl, Rdd.dp d g r, (good_show d g).1, by omega, by omega, q⟩
/-- v != u of equal such values -/
theorem rNe_same {K : PySem.W.Frag} {H : Hp} {v u : V} {d : D} {Q : VK} (r1 : Rdd K H v d) (r2 : Rdd K H u d) (g : d.good = true) (hd : d.dep ≤ 40) (q : Q (.bl false) H) : rNeD K v u H Q := by
  have h1 := dep_py d
  have c := (good_show d g).2
  have s : SeqAt.shaped d.py = true := by
    unfold SeqAt.shaped
    rw [c, decide_eq_true (show d.py.depth ≤ 64 by omega)]
    rfl
  refine ⟨d.py, d.py, Rdd.dp d g r1, Rdd.dp d g r2, s, s, ?_⟩
  rw [SeqAt.eqv_refl d.py c]
  exact q
theorem rEq_same {K : PySem.W.Frag} {H : Hp} {v u : V} {d : D} {Q : VK} (r1 : Rdd K H v d) (r2 : Rdd K H u d) (g : d.good = true) (hd : d.dep ≤ 40) (q : Q (.bl true) H) : rEqD K v u H Q := by
  have h1 := dep_py d
  have c := (good_show d g).2
  have s : SeqAt.shaped d.py = true := by
    unfold SeqAt.shaped
    rw [c, decide_eq_true (show d.py.depth ≤ 64 by omega)]
    rfl
  refine ⟨d.py, d.py, Rdd.dp d g r1, Rdd.dp d g r2, s, s, ?_⟩
  rw [SeqAt.eqv_refl d.py c]
  exact q
end Sl

set_option Elab.async false
set_option linter.all false
set_option maxRecDepth 100000
set_option maxHeartbeats 400000
/-! ## Comprehensions whose turns make values, and may change what J lets change -/
namespace Sl
open PySem PySem.Spec PyProof.Rows L2
structure Jr (J : Hp → Hp → Prop) : Prop where
  tr : ∀ {G G1 G2}, J G G1 → J G1 G2 → J G G2
  ex : ∀ {G G'}, J G G' → Ex G G'
  put : ∀ {G G' D o}, J G G' → G D = none → J G (upd G' D o)
  keep : ∀ {G0 G G' D l}, J G0 G → G0 D = none → J G G' → G D = some (.lst l) → G' D = some (.lst l)
theorem jr_same : Jr Same := by
  refine ⟨fun a b => a.trans b, Ex.same, fun {G G' D o} a n b x e => ?_, fun _ _ a e => a _ _ e⟩
  rw [upd_ne (ne_of_none e n)]
  exact a b x e
/-- what is made so far -/
def Accd (K : PySem.W.Frag) (J : Hp → Hp → Prop) (H1 : Hp) (D0 : Addr) (Pd : Nat → D → Prop) (i : Nat) (H : Hp) : Prop :=
  J H1 H ∧ ∃ ys ds, H D0 = some (.lst ys) ∧ RddAll K H ys ds ∧ ds.length = i ∧ ∀ j d, ds[j]? = some d → Pd j d
theorem accd_start {K : PySem.W.Frag} {J : Hp → Hp → Prop} {H1 : Hp} {D0 : Addr} {Pd : Nat → D → Prop} (jr : Jr J) (j0 : J H1 H1) (hD : H1 D0 = none) : Accd K J H1 D0 Pd 0 (upd H1 D0 (.lst [])) :=
  ⟨jr.put j0 hD, [], [], upd_same, .nil, rfl, fun j d h => by simp at h⟩
theorem RddAll.snoc {K : PySem.W.Frag} {H : Hp} {x : V} {d : D} : ∀ {xs : List V} {ds : List D}, RddAll K H xs ds → Rdd K H x d → RddAll K H (xs ++ [x]) (ds ++ [d])
  | _, _, .nil, h => .cons h .nil
  | _, _, .cons a b, h => .cons a (b.snoc h)
theorem accd_turn {K : PySem.W.Frag} {J : Hp → Hp → Prop} {H1 H H' : Hp} {D0 : Addr} {Pd : Nat → D → Prop} {i : Nat} {y : V} {d : D} (jr : Jr J) (hD : H1 D0 = none) (hi : i < 100000) (a : Accd K J H1 D0 Pd i H) (j : J H H') (r : Rdd K H' y d) (p : Pd i d) :
    ∃ acc, H' D0 = some (.lst acc) ∧ acc.length < sizeLine ∧ Accd K J H1 D0 Pd (i + 1) (upd H' D0 (.lst (acc ++ [y]))) := by
  obtain ⟨j1, ys, ds, h1, h2, h3, h4⟩ := a
  have k := jr.keep j1 hD j h1
  have sl := sizeLine_eq
  have len := h2.length
  have ex : Ex H' (upd H' D0 (.lst (ys ++ [y]))) := (Off.put (a := D0)).ex k upd_same
  refine ⟨ys, k, by omega, jr.put (jr.tr j1 j) hD, ys ++ [y], ds ++ [d], upd_same, (RddAll.ex ex _ (RddAll.ex (jr.ex j) _ h2)).snoc (Rdd.ex ex _ r), by rw [List.length_append, h3] <;> rfl, fun j2 d2 e => ?_⟩
  by_cases q : j2 < i
  · rw [List.getElem?_append_left (by omega)] at e
    exact h4 j2 d2 e
  · have e2 : j2 = i := by
      have := (List.getElem?_eq_some_iff.mp e).1
      rw [List.length_append, h3] at this
      simp at this
      omega
    subst e2
    rw [List.getElem?_append_right (by omega), h3, Nat.sub_self] at e
    cases e
    exact p
section
variable {K : PySem.W.Frag} {J : Hp → Hp → Prop} {a D0 : Addr} {xs : List V} {g : TG} {tt : TT} {te : TE} {vs : List Nat} {σ : L2.St} {H1 : Hp} {Qd : Hp → Prop} {Pd : Nat → D → Prop}
theorem lcJL (jr : Jr J) (j0 : J H1 H1) (hz : xs.length ≤ 100000) (hT : ∀ H, J H1 H → SqL K H a xs) (hD : H1 D0 = none)
    (hs : ∀ (i : Nat) (x : V) (H : Hp) (Q : VK) (Z : Hp → Prop), xs[i]? = some x → J H1 H → (∀ y H' d, J H H' → Rdd K H' y d → Pd i d → Q y H') →
      g x (wipe σ vs) H fun σ2 H2 => wipe σ2 vs = wipe σ vs ∧ tt σ2 H2 fun b H3 => if b = true then te σ2 H3 Q else Z H3)
    (hd : ∀ H ys ds, J H1 H → H D0 = some (.lst ys) → RddAll K H ys ds → ds.length = xs.length → (∀ j d, ds[j]? = some d → Pd j d) → Qd H) :
    ∃ W : Nat → Nat → Hp → Prop, (∃ m, W 0 m (upd H1 D0 (.lst []))) ∧ ∀ i m H, W i m H →
      ((Itl K a).stop i H ∧ Qd H) ∨ ((Itl K a).go i H ∧ ∃ Nx : Hp → Prop, (∀ H', Nx H' → ∃ m', m' < m ∧ W (i + 1) m' H') ∧ ∀ x H', (Itl K a).yld i H x H' → g x (wipe σ vs) H' fun σ2 H2 => wipe σ2 vs = wipe σ vs ∧ tt σ2 H2 fun b H3 =>
        if b = true then te σ2 H3 fun y H4 => ∃ acc, H4 D0 = some (.lst acc) ∧ acc.length < sizeLine ∧ Nx (upd H4 D0 (.lst (acc ++ [y]))) else Nx H3) := by
  refine lc_list (Accd K J H1 D0 Pd) (accd_start jr j0 hD) (fun i H _ h => hT H h.1) (fun i x H hx h => ?_) (fun H h => ?_)
  · have hi := (List.getElem?_eq_some_iff.mp hx).1
    exact hs i x H _ _ hx h.1 fun y H' d j r p => accd_turn jr hD (by omega) h j r p
  · obtain ⟨j1, ys, ds, h1, h2, h3, h4⟩ := h
    exact hd H ys ds j1 h1 h2 h3 h4
theorem lcJT (jr : Jr J) (j0 : J H1 H1) (hz : xs.length ≤ 100000) (hT : SqT K H1 a xs) (hD : H1 D0 = none)
    (hs : ∀ (i : Nat) (x : V) (H : Hp) (Q : VK) (Z : Hp → Prop), xs[i]? = some x → J H1 H → (∀ y H' d, J H H' → Rdd K H' y d → Pd i d → Q y H') →
      g x (wipe σ vs) H fun σ2 H2 => wipe σ2 vs = wipe σ vs ∧ tt σ2 H2 fun b H3 => if b = true then te σ2 H3 Q else Z H3)
    (hd : ∀ H ys ds, J H1 H → H D0 = some (.lst ys) → RddAll K H ys ds → ds.length = xs.length → (∀ j d, ds[j]? = some d → Pd j d) → Qd H) :
    ∃ W : Nat → Nat → Hp → Prop, (∃ m, W 0 m (upd H1 D0 (.lst []))) ∧ ∀ i m H, W i m H →
      ((Itt K a).stop i H ∧ Qd H) ∨ ((Itt K a).go i H ∧ ∃ Nx : Hp → Prop, (∀ H', Nx H' → ∃ m', m' < m ∧ W (i + 1) m' H') ∧ ∀ x H', (Itt K a).yld i H x H' → g x (wipe σ vs) H' fun σ2 H2 => wipe σ2 vs = wipe σ vs ∧ tt σ2 H2 fun b H3 =>
        if b = true then te σ2 H3 fun y H4 => ∃ acc, H4 D0 = some (.lst acc) ∧ acc.length < sizeLine ∧ Nx (upd H4 D0 (.lst (acc ++ [y]))) else Nx H3) := by
  refine lc_tup (Accd K J H1 D0 Pd) (accd_start jr j0 hD) (fun i H _ h => (jr.ex h.1).tup hT) (fun i x H hx h => ?_) (fun H h => ?_)
  · have hi := (List.getElem?_eq_some_iff.mp hx).1
    exact hs i x H _ _ hx h.1 fun y H' d j r p => accd_turn jr hD (by omega) h j r p
  · obtain ⟨j1, ys, ds, h1, h2, h3, h4⟩ := h
    exact hd H ys ds j1 h1 h2 h3 h4
theorem lcJR {lo : Int} {n : Nat} (jr : Jr J) (j0 : J H1 H1) (hz : n ≤ 100000) (hD : H1 D0 = none)
    (hs : ∀ (i : Nat) (H : Hp) (Q : VK) (Z : Hp → Prop), i < n → J H1 H → (∀ y H' d, J H H' → Rdd K H' y d → Pd i d → Q y H') →
      g (.int (lo + i)) (wipe σ vs) H fun σ2 H2 => wipe σ2 vs = wipe σ vs ∧ tt σ2 H2 fun b H3 => if b = true then te σ2 H3 Q else Z H3)
    (hd : ∀ H ys ds, J H1 H → H D0 = some (.lst ys) → RddAll K H ys ds → ds.length = n → (∀ j d, ds[j]? = some d → Pd j d) → Qd H) :
    ∃ W : Nat → Nat → Hp → Prop, (∃ m, W 0 m (upd H1 D0 (.lst []))) ∧ ∀ i m H, W i m H →
      ((Itr lo n).stop i H ∧ Qd H) ∨ ((Itr lo n).go i H ∧ ∃ Nx : Hp → Prop, (∀ H', Nx H' → ∃ m', m' < m ∧ W (i + 1) m' H') ∧ ∀ x H', (Itr lo n).yld i H x H' → g x (wipe σ vs) H' fun σ2 H2 => wipe σ2 vs = wipe σ vs ∧ tt σ2 H2 fun b H3 =>
        if b = true then te σ2 H3 fun y H4 => ∃ acc, H4 D0 = some (.lst acc) ∧ acc.length < sizeLine ∧ Nx (upd H4 D0 (.lst (acc ++ [y]))) else Nx H3) := by
  refine lc_range (Accd K J H1 D0 Pd) (accd_start jr j0 hD) (fun i H hi h => ?_) (fun H h => ?_)
  · exact hs i H _ _ hi h.1 fun y H' d j r p => accd_turn jr hD (by omega) h j r p
  · obtain ⟨j1, ys, ds, h1, h2, h3, h4⟩ := h
    exact hd H ys ds j1 h1 h2 h3 h4
end
/-- for k in d, d under its lock -/
theorem forK {d : Addr} {o : Obj} {kvs : List (Key × V)} {g : TG} {tb : TS} {D : Ends} {σ : L2.St} {H : Hp} (Pv : Nat → L2.St → Hp → Prop) (h0 : Pv 0 σ H) (hl : ∀ i σ H, i ≤ kvs.length → Pv i σ H → H d = some (.frz o (.dK kvs)))
    (hs : ∀ i k v σ H, kvs[i]? = some (k, v) → Pv i σ H → g (kV k) σ H fun σ2 H2 => tb { D with nx := Pv (i + 1), ct := Pv (i + 1), bk := D.nx } σ2 H2) (hd : ∀ σ H, Pv kvs.length σ H → D.nx σ H) :
    ∃ W : Nat → Nat → L2.St → Hp → Prop, (∃ m, W 0 m σ H) ∧ ∀ i m σ H, W i m σ H →
      ((Itk d o kvs).stop i H ∧ D.nx σ H) ∨ ((Itk d o kvs).go i H ∧ ∃ N : L2.St → Hp → Prop, (∀ σ' H', N σ' H' → ∃ m', m' < m ∧ W (i + 1) m' σ' H') ∧ ∀ x H', (Itk d o kvs).yld i H x H' → g x σ H' fun σ2 H2 => tb { D with nx := N, ct := N, bk := D.nx } σ2 H2) := by
  refine ⟨fun i m σ H => m = kvs.length - i ∧ i ≤ kvs.length ∧ Pv i σ H, ⟨kvs.length, by simp, Nat.zero_le _, h0⟩, ?_⟩
  rintro i m σ H ⟨rfl, hi, p⟩
  have q := hl i σ H hi p
  by_cases lt : i < kvs.length
  · refine .inr ⟨⟨q, lt⟩, Pv (i + 1), fun σ' H' p' => ⟨kvs.length - (i + 1), by omega, rfl, lt, p'⟩, fun x H' y => ?_⟩
    obtain ⟨rfl, k, v, e, rfl⟩ := y
    exact hs i k v σ _ e p
  · have e : i = kvs.length := by omega
    subst e
    exact .inl ⟨⟨q, Nat.le_refl _⟩, hd σ H p⟩
theorem upd_back {H : Hp} {d : Addr} {u v : HO} (h : H d = some u) : upd (upd H d v) d u = H := by
  funext b
  by_cases e : b = d
  · subst e
    rw [upd_same, h]
  · rw [upd_ne e, upd_ne e]
end Sl

set_option Elab.async false
set_option linter.all false
set_option maxRecDepth 100000
set_option maxHeartbeats 1000000
/-! ### enumerate(t), t a tuple -/
namespace PySem
open AutoSeq1 (wpAny_loadPart')
theorem meets_enumerate_newTp (l : Addr) (items : Array Value) :
    Meets (Builtin.«enumerate.__new__» ⟨[.type "enumerate", .ref l], []⟩) (fun _ R s => s.heap.IsTuple l items ∧
      R (.ok (.ret (.ref (s.heap.push { cls := .type "tuple_iterator", data := .fields #[.ref l, .int 0 0] }).objs.size)))
        { s with heap := (s.heap.push { cls := .type "tuple_iterator", data := .fields #[.ref l, .int 0 0] }).push { cls := .type "enumerate", data := .fields #[.none, .bool false, .ref s.heap.objs.size, rawInt 0, .none, .none] } }) :=
  .of_wp fun prog w A R s h => by
    obtain ⟨hp, g, d, tk, os⟩ := s; obtain ⟨hL, h⟩ := h
    have hsub := sub_enumerate
    have hL' : Heap.IsTuple (Shared.heap ⟨hp, g, d, tk, os⟩) l items := hL
    wp_walk
    refine wpAny_stack_any fun st => wpAny_pure ?_
    split
    · rename_i c _ _ _ _ _
      cases (c == Value.type "enumerate")
      · wp_walk using wpAny_pyIter_tuple hL'
        exact ⟨_, rfl, h⟩
      · wp_walk using wpAny_pyIter_tuple hL'
        exact ⟨_, rfl, h⟩
    · wp_walk using wpAny_pyIter_tuple hL'
      exact ⟨_, rfl, h⟩
theorem call_enumerate_tup {prog : Program} {w : World} {A : Around} {E : Value → Shared → Prop} {s : Shared} {l : Addr} {items : Array Value} {Q : Value → Shared → Prop} (hL : s.heap.IsTuple l items)
    (h : ∀ h', IsEnum h' (s.heap.objs.size + 1) s.heap.objs.size 0 .none → h'.IsTupleIter s.heap.objs.size l 0 → h'.objs.size = s.heap.objs.size + 2 →
      (∀ b o, s.heap.get? b = some o → h'.get? b = some o) → Q (.ref (s.heap.objs.size + 1)) { s with heap := h' }) :
    wpAny (model prog w) A (call (.type "enumerate") [.ref l]) Q E s := by
  refine callType_new F.called_enumerate (by decide) (F.typeCall_enumerate_1 _) (F.newCall_enumerate_1 _) (fun obj => F.args_object_init_2 obj _) F.entry_enumerate_new
    (meets_enumerate_newTp l items) ⟨hL, ?_⟩
  have hz : (s.heap.push { cls := .type "tuple_iterator", data := .fields #[.ref l, .int 0 0] }).objs.size = s.heap.objs.size + 1 := Heap.size_push ..
  show _ ∧ _
  rw [hz]
  have he : IsEnum ((s.heap.push { cls := .type "tuple_iterator", data := .fields #[.ref l, .int 0 0] }).push
      { cls := .type "enumerate", data := .fields #[.none, .bool false, .ref s.heap.objs.size, rawInt 0, .none, .none] }) (s.heap.objs.size + 1) s.heap.objs.size 0 .none := by
    have := Heap.get?_push_size (s.heap.push { cls := .type "tuple_iterator", data := .fields #[.ref l, .int 0 0] })
      (o := { cls := .type "enumerate", data := .fields #[.none, .bool false, .ref s.heap.objs.size, rawInt 0, .none, .none] }) rfl
    rw [hz] at this; exact this
  refine ⟨⟨_, he, rfl⟩, h _ he ⟨_, Heap.get?_push_of_some _ (Heap.get?_push_size _ rfl), rfl, rfl⟩ (by rw [Heap.size_push, hz]) fun b o x => Heap.get?_push_of_some _ (Heap.get?_push_of_some _ x)⟩
end PySem
namespace Sl
open PySem PySem.Spec PyProof.Rows L2
def IteT (K : PySem.W.Frag) (a : Addr) : It :=
  ⟨fun i H => ∃ (xs : List V) (x : V), SqT K H a xs ∧ xs[i]? = some x, fun i H v H' => ∃ T x, v = .ref T ∧ H T = none ∧ H' = upd H T (.tup [.int (i : Nat), x]) ∧ ∀ xs, SqT K H a xs → xs[i]? = some x, fun i H => ∃ xs : List V, SqT K H a xs ∧ xs.length = i⟩
theorem turn_enumT {P : Program} {w : World} {K : PySem.W.Frag} {elts : List Expr} {kk : Nat} {tpos : Pos} (a e it : Addr) :
    Turn P w K (.Tuple elts kk tpos) (IteT K a) [e, it] e (fun i h => (∃ old, IsEnum h e it ((i : Nat) : Int) old) ∧ h.IsTupleIter it a i ∧ e ≠ it ∧ e ≠ a ∧ a ≠ it) where
  mem := by simp
  obj := fun i h st b hb => by
    obtain ⟨⟨old, he⟩, ⟨o, ho, hc, hd⟩, _⟩ := st
    have e' : b = e ∨ b = it := by simpa using hb
    rcases e' with z | z
    · rw [z]; exact ⟨_, he, fun v q => nomatch q⟩
    · rw [z]; exact ⟨o, ho, fun v q => by rw [hd] at q; cases q⟩
  keep := fun i h h' st k => let ⟨⟨old, he⟩, hi, hne⟩ := st; ⟨⟨old, k e (by simp) _ he⟩, hi.at fun o q => k it (by simp) o q, hne⟩
  item := by
    intro X hP hw hK hc i pins s σ H E I hf st hg
    subst hP hw hK
    obtain ⟨⟨old, he⟩, hit, hne, hea, hai⟩ := st
    obtain ⟨xs, x, hq, hx⟩ := hg
    obtain ⟨its, rv, p, hz⟩ := I.tuple hq
    obtain ⟨u, hu, ru⟩ := rv.get hx
    have hel : e < s.heap.objs.size := Heap.lt_size he
    have hil : it < s.heap.objs.size := by obtain ⟨_, q, _⟩ := hit; exact Heap.lt_size q
    have hlt := (List.getElem?_eq_some_iff.mp hu).1
    have DT : Draws X.prog X.w X.A.in1 it [it, a] its.toArray.size (fun i v => its.toArray[i]? = some v) (fun i h => h.IsTupleIter it a i ∧ h.IsTuple a its.toArray) := Draws.tuple (show X.A.in1.handled = none from I.ok.hd hc) it a hai its.toArray
    refine wpAny_pyNext_enum_itemD DT he ⟨hit, p⟩ (by rw [List.size_toArray]; exact hlt) hne (by simp [hne, hea]) fun y h' tk hy ho hit' hT hsz hk => ?_
    have ey : y = u := by
      have hy' : its[i]? = some y := by simpa using hy
      rw [hu] at hy'
      exact (Option.some.inj hy').symm
    subst ey
    refine ⟨_, rfl, wpAny_letOwnedTupleGo_enum (s := { s with heap := h', toks := tk + 1 }) ho fun h'' he' sb => ?_⟩
    have hT2 : h''.get? s.heap.objs.size = some { cls := .type "tuple", data := .seq #[.int i tk, y] } := (sb.2 _ (Nat.ne_of_gt hel)).trans hT
    have new : ObjOk X.prog X.w (upd H s.heap.objs.size (.tup [.int (i : Nat), x])) h'' s.heap.objs.size (.tup [.int (i : Nat), x]) :=
      ⟨by show 2 ≤ sizeLine; decide, [.int i tk, y], .cons ⟨_, rfl⟩ (.cons ru .nil), ⟨_, hT2, rfl, _, rfl⟩⟩
    have I1 : Inv X pins σ (upd H s.heap.objs.size (.tup [.int (i : Nat), x])) { s with heap := h'', toks := tk + 1 } :=
      I.turnedNew (ch := [e, it]) (fun b ob hb q => (sb.2 b (fun z => hb (by simp [z]))).trans (hk b ob (fun z => hb (by simp [z])) (fun z => hb (by simp [z])) q)) hf (Nat.le_refl _) new
    refine ⟨.ref s.heap.objs.size, _, I1, rfl, ⟨_, x, rfl, I.hok.fresh (Nat.le_refl _), rfl, fun ys hy => by rw [I.tuple_inj hy hq]; exact hx⟩, ⟨⟨y, ?_⟩, hit'.1.at fun o q => (sb.2 it (Ne.symm hne)).trans q, hne, hea, hai⟩, fun b hb => ?_⟩
    · have e1 : ((i + 1 : Nat) : Int) = (i : Int) + 1 := by omega
      rw [e1]; exact he'
    · have hb' : b < s.heap.objs.size := by
        have e' : b = e ∨ b = it := by simpa using hb
        rcases e' with z | z
        · rw [z]; exact hel
        · rw [z]; exact hil
      rw [upd_ne (Nat.ne_of_lt hb')]
      exact (hf b hb).1
  done := by
    intro X hP hw hK hc i pins s σ H E I hf st hg
    subst hP hw hK
    obtain ⟨⟨old, he⟩, hit, hne, hea, hai⟩ := st
    obtain ⟨xs, hq, hx⟩ := hg
    obtain ⟨its, rv, p, hz⟩ := I.tuple hq
    obtain ⟨f0, f1, f2, f3, f4, f5⟩ := hf it (by simp)
    have hl := rv.length
    have DT : Draws X.prog X.w X.A.in1 it [it, a] its.toArray.size (fun i v => its.toArray[i]? = some v) (fun i h => h.IsTupleIter it a i ∧ h.IsTuple a its.toArray) := Draws.tuple (show X.A.in1.handled = none from I.ok.hd hc) it a hai its.toArray
    have ei : i = its.toArray.size := by rw [List.size_toArray]; omega
    exact wpAny_pyNext_enum_endD DT he ⟨ei ▸ hit, p⟩ fun h' eb => ⟨rfl, I.turned (t' := s.toks) (fun b o hb q => eb b o hb q) f0 f1 f3 f4 f5⟩
  self := fun A i s Q E st h => let ⟨⟨_, he⟩, _⟩ := st; wpAny_pyIter_enum he h
def iEnumT (K : PySem.W.Frag) (ta : TA) : TI := fun σ H R => ta σ H fun vs H1 => ∃ a xs, vs = [.ref a] ∧ SqT K H1 a xs ∧ R (IteT K a) H1
theorem pi_enumT {X : Cx} {e : Expr} {ta : TA} {p pos tpos : Pos} {elts : List Expr} {kk : Nat} (hg : Gl X "enumerate") (hm : X.mg "enumerate" = none) (ha : PA X [e] ta) (hs : starEach [e] X.env = [(false, eval e X.env)] := by rfl) :
    PI X (.Tuple elts kk tpos) (.Call (.Name "enumerate" p) [e] [] pos) (iEnumT X.K ta) := by
  refine ⟨fun pins s σ H R I h => ?_⟩
  refine Call_ (ld_blt I hg hm boot_enumerate (PyProof.Rows.callWith_type1 (thn (ha.run pos pins s σ H _ I h) fun us s1 ⟨vs, H1, I1, r1, q1⟩ => ?_) hs rfl))
  obtain ⟨a, xs, ex, hq, q⟩ := q1
  subst ex
  cases r1 with
  | cons r rr =>
    cases rr
    cases r
    obtain ⟨its, rv, p', hz⟩ := I1.tuple hq
    have la : a < s1.heap.objs.size := by obtain ⟨o, ho, _⟩ := p'; exact Heap.lt_size ho
    refine call_enumerate_tup p' fun h' he hit hsz hk => wpAny_pyIter_enum he ?_
    have I2 : Inv X pins σ H1 { s1 with heap := h' } := I1.kept (t' := s1.toks) hk
    refine ⟨s1.heap.objs.size + 1, [s1.heap.objs.size + 1, s1.heap.objs.size], _, _, H1, rfl, I2, turn_enumT a (s1.heap.objs.size + 1) s1.heap.objs.size, ⟨⟨.none, he⟩, hit, Nat.succ_ne_self _, Nat.ne_of_gt (Nat.lt_succ_of_lt la), Nat.ne_of_lt la⟩, fun b hb => ?_, q⟩
    have e' : b = s1.heap.objs.size + 1 ∨ b = s1.heap.objs.size := by simpa using hb
    have hle : s1.heap.objs.size ≤ b := by
      rcases e' with z | z
      · rw [z]; exact Nat.le_add_right _ _
      · rw [z]; exact Nat.le_refl _
    exact I1.fpOk hle (I1.hok.fresh hle)
section
variable {K : PySem.W.Frag} {J : Hp → Hp → Prop} {a D0 : Addr} {xs : List V} {g : TG} {tt : TT} {te : TE} {vs : List Nat} {σ : L2.St} {H1 : Hp} {Qd : Hp → Prop} {Pd : Nat → D → Prop}
/-- a comprehension over enumerate(t) -/
theorem lcJE (jr : Jr J) (j0 : J H1 H1) (js : ∀ {G G'}, Same G G' → J G G') (hz : xs.length ≤ 100000) (hT : SqT K H1 a xs) (hD : H1 D0 = none)
    (hs : ∀ (i : Nat) (x : V) (p : Addr) (H : Hp) (Q : VK) (Z : Hp → Prop), xs[i]? = some x → J H1 H → H p = some (.tup [.int (i : Nat), x]) → (∀ y H' d, J H H' → Rdd K H' y d → Pd i d → Q y H') →
      g (.ref p) (wipe σ vs) H fun σ2 H2 => wipe σ2 vs = wipe σ vs ∧ tt σ2 H2 fun b H3 => if b = true then te σ2 H3 Q else Z H3)
    (hd : ∀ H ys ds, J H1 H → H D0 = some (.lst ys) → RddAll K H ys ds → ds.length = xs.length → (∀ j d, ds[j]? = some d → Pd j d) → Qd H) :
    ∃ W : Nat → Nat → Hp → Prop, (∃ m, W 0 m (upd H1 D0 (.lst []))) ∧ ∀ i m H, W i m H →
      ((IteT K a).stop i H ∧ Qd H) ∨ ((IteT K a).go i H ∧ ∃ Nx : Hp → Prop, (∀ H', Nx H' → ∃ m', m' < m ∧ W (i + 1) m' H') ∧ ∀ x H', (IteT K a).yld i H x H' → g x (wipe σ vs) H' fun σ2 H2 => wipe σ2 vs = wipe σ vs ∧ tt σ2 H2 fun b H3 =>
        if b = true then te σ2 H3 fun y H4 => ∃ acc, H4 D0 = some (.lst acc) ∧ acc.length < sizeLine ∧ Nx (upd H4 D0 (.lst (acc ++ [y]))) else Nx H3) := by
  refine ⟨fun i m H => m = xs.length - i ∧ i ≤ xs.length ∧ Accd K J H1 D0 Pd i H, ⟨xs.length, by simp, Nat.zero_le _, accd_start jr j0 hD⟩, ?_⟩
  rintro i m H ⟨rfl, hi, p⟩
  have q := (jr.ex p.1).tup hT
  by_cases hlt : i < xs.length
  · refine .inr ⟨⟨xs, xs[i], q, by simp [hlt]⟩, Accd K J H1 D0 Pd (i + 1), fun H' p' => ⟨xs.length - (i + 1), by omega, rfl, hlt, p'⟩, fun x H' y => ?_⟩
    obtain ⟨T, x, rfl, n0, rfl, hx⟩ := y
    have s1 := Same.new (o := .tup [.int (i : Nat), x]) n0
    have p' : Accd K J H1 D0 Pd i (upd H T (.tup [.int (i : Nat), x])) := by
      obtain ⟨j1, ys, ds, h1, h2, h3, h4⟩ := p
      exact ⟨jr.tr j1 (js s1), ys, ds, s1 _ _ h1, RddAll.ex (.same s1) _ h2, h3, h4⟩
    exact hs i x T _ _ _ (hx xs q) p'.1 upd_same fun y H' d j r pd => accd_turn jr hD (by omega) p' j r pd
  · have e : i = xs.length := by omega
    subst e
    obtain ⟨j1, ys, ds, h1, h2, h3, h4⟩ := p
    exact .inl ⟨⟨xs, q, rfl⟩, hd H ys ds j1 h1 h2 h3 h4⟩
end
end Sl

set_option Elab.async false
set_option linter.all false
set_option maxRecDepth 100000
set_option maxHeartbeats 400000
/-! ## Lists of new lists; loops over enumerate(tuple) -/
namespace Sl
open PySem PySem.Spec PyProof.Rows L2
abbrev LsN := List (Addr × List V)
/-- what stood stays; the lists L stand, each at a new place of its own -/
structure TrN (H0 H : Hp) (L : LsN) : Prop where
  same : Same H0 H
  hold : ∀ x ∈ L, H x.1 = some (.lst x.2)
  nd : (L.map (·.1)).Nodup
  fr : ∀ x ∈ L, H0 x.1 = none
theorem TrN.nil (H : Hp) : TrN H H [] := ⟨Same.refl _, (fun x h => by cases h), List.nodup_nil, (fun x h => by cases h)⟩
theorem TrN.at {H0 H : Hp} {L : LsN} (t : TrN H0 H L) {i : Nat} {a : Addr} {l : List V} (e : L[i]? = some (a, l)) : H a = some (.lst l) := t.hold (a, l) (List.mem_of_getElem? e)
theorem TrN.go {H0 H H' : Hp} {L : LsN} (t : TrN H0 H L) (s : Same H H') : TrN H0 H' L := ⟨t.same.trans s, fun x hx => s _ _ (t.hold x hx), t.nd, t.fr⟩
theorem lsn_fst {L : LsN} {i : Nat} {a : Addr} {l l' : List V} (e : L[i]? = some (a, l)) : (L.set i (a, l')).map (·.1) = L.map (·.1) := by
  rw [List.map_set]
  have h : (L.map (·.1))[i]? = some a := by rw [List.getElem?_map, e]; rfl
  obtain ⟨h1, h2⟩ := List.getElem?_eq_some_iff.mp h
  rw [← h2]
  exact List.set_getElem_self h1
theorem TrN.set {H0 H : Hp} {L : LsN} (t : TrN H0 H L) {i : Nat} {a : Addr} {l l' : List V} (e : L[i]? = some (a, l)) : TrN H0 (upd H a (.lst l')) (L.set i (a, l')) := by
  have f0 : H0 a = none := t.fr (a, l) (List.mem_of_getElem? e)
  refine ⟨jr_same.put t.same f0, fun x hx => ?_, ?_, fun x hx => ?_⟩
  · rcases List.mem_or_eq_of_mem_set hx with h | rfl
    · obtain ⟨j, hj, ej⟩ := List.getElem_of_mem hx
      by_cases hij : i = j
      · subst hij
        rw [List.getElem_set_self] at ej
        rw [← ej]
        exact upd_same
      · rw [List.getElem_set_ne hij] at ej
        have hj' : j < L.length := by simpa using hj
        have ne : x.1 ≠ a := fun z => by
          have e1 : (L.map (·.1))[i]? = some a := by rw [List.getElem?_map, e]; rfl
          have e2 : (L.map (·.1))[j]? = some a := by rw [List.getElem?_map, List.getElem?_eq_getElem hj', ej, ← z]; rfl
          obtain ⟨p1, p2⟩ := List.getElem?_eq_some_iff.mp e1
          obtain ⟨q1, q2⟩ := List.getElem?_eq_some_iff.mp e2
          exact hij ((List.getElem_inj t.nd).mp (p2.trans q2.symm))
        rw [upd_ne ne]
        exact t.hold x h
    · exact upd_same
  · rw [lsn_fst e]
    exact t.nd
  · rcases List.mem_or_eq_of_mem_set hx with h | rfl
    · exact t.fr x h
    · exact f0
theorem none_of {H G : Hp} {b : Addr} (s : Same H G) (n : G b = none) : H b = none := by
  cases e : H b with
  | none => rfl
  | some o =>
    rw [s _ _ e] at n
    cases n
theorem TrN.new {H0 H : Hp} {p : Addr} {L : LsN} {l : List V} (t : TrN H0 H L) (n : H p = none) : TrN H0 (upd H p (.lst l)) (L ++ [(p, l)]) := by
  have s := Same.new (o := .lst l) n
  refine ⟨t.same.trans s, fun x h => ?_, ?_, fun x h => ?_⟩
  · rcases List.mem_append.mp h with h | h
    · exact s _ _ (t.hold x h)
    · rw [List.mem_singleton.mp h]
      exact upd_same
  · rw [List.map_append]
    refine List.nodup_append.mpr ⟨t.nd, by simp, fun a ha b hb => ?_⟩
    obtain ⟨x, hx, rfl⟩ := List.mem_map.mp ha
    simp only [List.map_cons, List.map_nil, List.mem_singleton] at hb
    subst hb
    exact ne_of_none (t.hold x hx) n
  · rcases List.mem_append.mp h with h | h
    · exact t.fr x h
    · rw [List.mem_singleton.mp h]
      exact none_of t.same n
theorem TrN.perm {H0 H : Hp} {L L' : LsN} (p : L'.Perm L) (t : TrN H0 H L) : TrN H0 H L' :=
  ⟨t.same, fun x hx => t.hold x (p.mem_iff.mp hx), (p.map _).nodup_iff.mpr t.nd, fun x hx => t.fr x (p.mem_iff.mp hx)⟩
theorem TrN.tail {H0 H : Hp} {x : Addr × List V} {L : LsN} (t : TrN H0 H (x :: L)) : TrN H0 H L :=
  ⟨t.same, fun y hy => t.hold y (List.mem_cons_of_mem _ hy), (List.nodup_cons.mp t.nd).2, fun y hy => t.fr y (List.mem_cons_of_mem _ hy)⟩
theorem TrN.cons {H0 H : Hp} {p : Addr} {L : LsN} {l : List V} (t : TrN H0 H L) (n : H p = none) : TrN H0 (upd H p (.lst l)) ((p, l) :: L) := (t.new n).perm (List.perm_append_singleton _ _).symm
theorem TrN.known {H0 H : Hp} {p : Addr} {L : LsN} {l : List V} (t : TrN H0 H L) (f : H0 p = none) (h : H p = some (.lst l)) (n : ∀ x ∈ L, x.1 ≠ p) : TrN H0 H ((p, l) :: L) :=
  ⟨t.same, fun x hx => by
    rcases List.mem_cons.mp hx with rfl | hx
    · exact h
    · exact t.hold x hx, by
    rw [List.map_cons]
    refine List.nodup_cons.mpr ⟨fun z => ?_, t.nd⟩
    obtain ⟨x, hx, e⟩ := List.mem_map.mp z
    exact n x hx e, fun x hx => by
    rcases List.mem_cons.mp hx with rfl | hx
    · exact f
    · exact t.fr x hx⟩
section
variable {K : PySem.W.Frag} {a D : Addr} {xs : List V} {g : TG} {tt : TT} {te : TE} {vs : List Nat} {σ : L2.St} {H1 : Hp} {Qd : Hp → Prop}
/-- [[] for _ in t] -/
theorem lcNew (hz : xs.length ≤ 100000) (hT : SqT K H1 a xs) (hD : H1 D = none)
    (hs : ∀ (x : V) (H : Hp) (Q : VK) (Z : Hp → Prop), (∀ p, H p = none → Q (.ref p) (upd H p (.lst []))) → g x (wipe σ vs) H fun σ2 H2 => wipe σ2 vs = wipe σ vs ∧ tt σ2 H2 fun b H3 => if b = true then te σ2 H3 Q else Z H3)
    (hd : ∀ H (as : List Addr), as.length = xs.length → TrN H1 H ((D, as.map V.ref) :: as.map fun p => (p, [])) → Qd H) :
    ∃ W : Nat → Nat → Hp → Prop, (∃ m, W 0 m (upd H1 D (.lst []))) ∧ ∀ i m H, W i m H →
      ((Itt K a).stop i H ∧ Qd H) ∨ ((Itt K a).go i H ∧ ∃ Nx : Hp → Prop, (∀ H', Nx H' → ∃ m', m' < m ∧ W (i + 1) m' H') ∧ ∀ x H', (Itt K a).yld i H x H' → g x (wipe σ vs) H' fun σ2 H2 => wipe σ2 vs = wipe σ vs ∧ tt σ2 H2 fun b H3 =>
        if b = true then te σ2 H3 fun y H4 => ∃ acc, H4 D = some (.lst acc) ∧ acc.length < sizeLine ∧ Nx (upd H4 D (.lst (acc ++ [y]))) else Nx H3) := by
  have sl := sizeLine_eq
  refine lc_tup (fun i H => ∃ as : List Addr, as.length = i ∧ TrN H1 H ((D, as.map V.ref) :: as.map fun p => (p, []))) ⟨[], rfl, (TrN.nil H1).new hD⟩
    (fun i H _ ⟨as, _, t⟩ => (Ex.same t.same).tup hT) (fun i x H hx ⟨as, la, t⟩ => ?_) (fun H ⟨as, la, t⟩ => hd H as la t)
  have hi := (List.getElem?_eq_some_iff.mp hx).1
  refine hs x H _ _ fun p np => ?_
  have t2 := t.new (l := []) np
  have t3 := t2.set (i := 0) (a := D) (l := as.map V.ref) (l' := as.map V.ref ++ [V.ref p]) rfl
  refine ⟨_, t2.at (i := 0) rfl, by rw [List.length_map]; omega, as ++ [p], by rw [List.length_append, la]; rfl, ?_⟩
  rw [List.map_append, List.map_append]
  exact t3
/-- .. over a list -/
theorem lcNewL (hz : xs.length ≤ 100000) (hT : SqL K H1 a xs) (hD : H1 D = none)
    (hs : ∀ (x : V) (H : Hp) (Q : VK) (Z : Hp → Prop), (∀ p, H p = none → Q (.ref p) (upd H p (.lst []))) → g x (wipe σ vs) H fun σ2 H2 => wipe σ2 vs = wipe σ vs ∧ tt σ2 H2 fun b H3 => if b = true then te σ2 H3 Q else Z H3)
    (hd : ∀ H (as : List Addr), as.length = xs.length → TrN H1 H ((D, as.map V.ref) :: as.map fun p => (p, [])) → Qd H) :
    ∃ W : Nat → Nat → Hp → Prop, (∃ m, W 0 m (upd H1 D (.lst []))) ∧ ∀ i m H, W i m H →
      ((Itl K a).stop i H ∧ Qd H) ∨ ((Itl K a).go i H ∧ ∃ Nx : Hp → Prop, (∀ H', Nx H' → ∃ m', m' < m ∧ W (i + 1) m' H') ∧ ∀ x H', (Itl K a).yld i H x H' → g x (wipe σ vs) H' fun σ2 H2 => wipe σ2 vs = wipe σ vs ∧ tt σ2 H2 fun b H3 =>
        if b = true then te σ2 H3 fun y H4 => ∃ acc, H4 D = some (.lst acc) ∧ acc.length < sizeLine ∧ Nx (upd H4 D (.lst (acc ++ [y]))) else Nx H3) := by
  have sl := sizeLine_eq
  refine lc_list (fun i H => ∃ as : List Addr, as.length = i ∧ TrN H1 H ((D, as.map V.ref) :: as.map fun p => (p, []))) ⟨[], rfl, (TrN.nil H1).new hD⟩
    (fun i H _ ⟨as, _, t⟩ => Same.seq t.same hT) (fun i x H hx ⟨as, la, t⟩ => ?_) (fun H ⟨as, la, t⟩ => hd H as la t)
  have hi := (List.getElem?_eq_some_iff.mp hx).1
  refine hs x H _ _ fun p np => ?_
  have t2 := t.new (l := []) np
  have t3 := t2.set (i := 0) (a := D) (l := as.map V.ref) (l' := as.map V.ref ++ [V.ref p]) rfl
  refine ⟨_, t2.at (i := 0) rfl, by rw [List.length_map]; omega, as ++ [p], by rw [List.length_append, la]; rfl, ?_⟩
  rw [List.map_append, List.map_append]
  exact t3
/-- a new list for each item: of item i one with the i-th of cs in it -/
theorem lcCopy {cs : List (List V)} (lc : cs.length = xs.length) (hz : xs.length ≤ 100000) (hT : SqL K H1 a xs) (hD : H1 D = none)
    (hs : ∀ (i : Nat) (x : V) (c : List V) (H : Hp) (Q : VK) (Z : Hp → Prop), xs[i]? = some x → cs[i]? = some c → Same H1 H → (∀ p, H p = none → Q (.ref p) (upd H p (.lst c))) → g x (wipe σ vs) H fun σ2 H2 => wipe σ2 vs = wipe σ vs ∧ tt σ2 H2 fun b H3 => if b = true then te σ2 H3 Q else Z H3)
    (hd : ∀ H (as : List Addr), as.length = xs.length → TrN H1 H ((D, as.map V.ref) :: as.zip cs) → Qd H) :
    ∃ W : Nat → Nat → Hp → Prop, (∃ m, W 0 m (upd H1 D (.lst []))) ∧ ∀ i m H, W i m H →
      ((Itl K a).stop i H ∧ Qd H) ∨ ((Itl K a).go i H ∧ ∃ Nx : Hp → Prop, (∀ H', Nx H' → ∃ m', m' < m ∧ W (i + 1) m' H') ∧ ∀ x H', (Itl K a).yld i H x H' → g x (wipe σ vs) H' fun σ2 H2 => wipe σ2 vs = wipe σ vs ∧ tt σ2 H2 fun b H3 =>
        if b = true then te σ2 H3 fun y H4 => ∃ acc, H4 D = some (.lst acc) ∧ acc.length < sizeLine ∧ Nx (upd H4 D (.lst (acc ++ [y]))) else Nx H3) := by
  have sl := sizeLine_eq
  refine lc_list (fun i H => ∃ as : List Addr, as.length = i ∧ TrN H1 H ((D, as.map V.ref) :: as.zip (cs.take i))) ⟨[], rfl, (TrN.nil H1).new hD⟩
    (fun i H _ ⟨as, _, t⟩ => Same.seq t.same hT) (fun i x H hx ⟨as, la, t⟩ => ?_) (fun H ⟨as, la, t⟩ => hd H as la (by rw [← lc, List.take_length] at t; exact t))
  have hi := (List.getElem?_eq_some_iff.mp hx).1
  have hc : cs[i]? = some (cs[i]'(by omega)) := List.getElem?_eq_getElem _
  refine hs i x _ H _ _ hx hc t.same fun p np => ?_
  have t2 := t.new (l := cs[i]'(by omega)) np
  have t3 := t2.set (i := 0) (a := D) (l := as.map V.ref) (l' := as.map V.ref ++ [V.ref p]) rfl
  refine ⟨_, t2.at (i := 0) rfl, by rw [List.length_map]; omega, as ++ [p], by rw [List.length_append, la]; rfl, ?_⟩
  rw [List.map_append, List.take_add_one, hc, List.zip_append (by rw [List.length_take]; omega)]
  exact t3
/-- a comprehension over enumerate(t), with a filter -/
theorem lcET (Pv : Nat → Hp → Prop) (h0 : Pv 0 (upd H1 D (.lst []))) (hl : ∀ i H, Pv i H → SqT K H a xs) (hn : ∀ i H T x, Pv i H → H T = none → Pv i (upd H T (.tup [.int (i : Nat), x])))
    (hs : ∀ (i : Nat) (x : V) (T : Addr) (H : Hp), xs[i]? = some x → Pv i H → H T = some (.tup [.int (i : Nat), x]) → g (.ref T) (wipe σ vs) H fun σ2 H2 => wipe σ2 vs = wipe σ vs ∧ tt σ2 H2 fun b H3 =>
      if b = true then te σ2 H3 fun y H4 => ∃ acc, H4 D = some (.lst acc) ∧ acc.length < sizeLine ∧ Pv (i + 1) (upd H4 D (.lst (acc ++ [y]))) else Pv (i + 1) H3) (hd : ∀ H, Pv xs.length H → Qd H) :
    ∃ W : Nat → Nat → Hp → Prop, (∃ m, W 0 m (upd H1 D (.lst []))) ∧ ∀ i m H, W i m H →
      ((IteT K a).stop i H ∧ Qd H) ∨ ((IteT K a).go i H ∧ ∃ Nx : Hp → Prop, (∀ H', Nx H' → ∃ m', m' < m ∧ W (i + 1) m' H') ∧ ∀ x H', (IteT K a).yld i H x H' → g x (wipe σ vs) H' fun σ2 H2 => wipe σ2 vs = wipe σ vs ∧ tt σ2 H2 fun b H3 =>
        if b = true then te σ2 H3 fun y H4 => ∃ acc, H4 D = some (.lst acc) ∧ acc.length < sizeLine ∧ Nx (upd H4 D (.lst (acc ++ [y]))) else Nx H3) := by
  refine ⟨fun i m H => m = xs.length - i ∧ i ≤ xs.length ∧ Pv i H, ⟨xs.length, by simp, Nat.zero_le _, h0⟩, ?_⟩
  rintro i m H ⟨rfl, hi, p⟩
  have q := hl i H p
  by_cases hlt : i < xs.length
  · refine .inr ⟨⟨xs, xs[i], q, by simp [hlt]⟩, Pv (i + 1), fun H' p' => ⟨xs.length - (i + 1), by omega, rfl, hlt, p'⟩, fun x H' y => ?_⟩
    obtain ⟨T, x, rfl, n0, rfl, hx⟩ := y
    exact hs i x T _ (hx xs q) (hn i H T x p n0) upd_same
  · have e : i = xs.length := by omega
    subst e
    exact .inl ⟨⟨xs, q, rfl⟩, hd H p⟩
end
/-- for i, x in enumerate(t) -/
theorem for_ET {K : PySem.W.Frag} {a : Addr} {xs : List V} {g : TG} {tb : TS} {D : Ends} {σ : L2.St} {H : Hp} (Pv : Nat → L2.St → Hp → Prop) (h0 : Pv 0 σ H) (hl : ∀ i σ H, Pv i σ H → SqT K H a xs)
    (hn : ∀ i σ H T x, Pv i σ H → H T = none → Pv i σ (upd H T (.tup [.int (i : Nat), x])))
    (hs : ∀ i x T σ H, xs[i]? = some x → Pv i σ H → H T = some (.tup [.int (i : Nat), x]) → g (.ref T) σ H fun σ2 H2 => tb { D with nx := Pv (i + 1), ct := Pv (i + 1), bk := D.nx } σ2 H2) (hd : ∀ σ H, Pv xs.length σ H → D.nx σ H) :
    ∃ W : Nat → Nat → L2.St → Hp → Prop, (∃ m, W 0 m σ H) ∧ ∀ i m σ H, W i m σ H →
      ((IteT K a).stop i H ∧ D.nx σ H) ∨ ((IteT K a).go i H ∧ ∃ N : L2.St → Hp → Prop, (∀ σ' H', N σ' H' → ∃ m', m' < m ∧ W (i + 1) m' σ' H') ∧ ∀ x H', (IteT K a).yld i H x H' → g x σ H' fun σ2 H2 => tb { D with nx := N, ct := N, bk := D.nx } σ2 H2) := by
  refine ⟨fun i m σ H => m = xs.length - i ∧ i ≤ xs.length ∧ Pv i σ H, ⟨xs.length, by simp, Nat.zero_le _, h0⟩, ?_⟩
  rintro i m σ H ⟨rfl, hi, p⟩
  have q := hl i σ H p
  by_cases hlt : i < xs.length
  · refine .inr ⟨⟨xs, xs[i], q, by simp [hlt]⟩, Pv (i + 1), fun σ' H' p' => ⟨xs.length - (i + 1), by omega, rfl, hlt, p'⟩, fun x H' y => ?_⟩
    obtain ⟨T, x, rfl, n0, rfl, hx⟩ := y
    exact hs i x T σ _ (hx xs q) (hn i σ H T x p n0) upd_same
  · have e : i = xs.length := by omega
    subst e
    exact .inl ⟨⟨xs, q, rfl⟩, hd σ H p⟩
/-- .. over a list -/
theorem for_EL {K : PySem.W.Frag} {a : Addr} {xs : List V} {g : TG} {tb : TS} {D : Ends} {σ : L2.St} {H : Hp} (Pv : Nat → L2.St → Hp → Prop) (h0 : Pv 0 σ H) (hl : ∀ i σ H, Pv i σ H → SqL K H a xs)
    (hn : ∀ i σ H T x, Pv i σ H → H T = none → Pv i σ (upd H T (.tup [.int (i : Nat), x])))
    (hs : ∀ i x T σ H, xs[i]? = some x → Pv i σ H → H T = some (.tup [.int (i : Nat), x]) → g (.ref T) σ H fun σ2 H2 => tb { D with nx := Pv (i + 1), ct := Pv (i + 1), bk := D.nx } σ2 H2) (hd : ∀ σ H, Pv xs.length σ H → D.nx σ H) :
    ∃ W : Nat → Nat → L2.St → Hp → Prop, (∃ m, W 0 m σ H) ∧ ∀ i m σ H, W i m σ H →
      ((Ite K a).stop i H ∧ D.nx σ H) ∨ ((Ite K a).go i H ∧ ∃ N : L2.St → Hp → Prop, (∀ σ' H', N σ' H' → ∃ m', m' < m ∧ W (i + 1) m' σ' H') ∧ ∀ x H', (Ite K a).yld i H x H' → g x σ H' fun σ2 H2 => tb { D with nx := N, ct := N, bk := D.nx } σ2 H2) := by
  refine ⟨fun i m σ H => m = xs.length - i ∧ i ≤ xs.length ∧ Pv i σ H, ⟨xs.length, by simp, Nat.zero_le _, h0⟩, ?_⟩
  rintro i m σ H ⟨rfl, hi, p⟩
  have q := hl i σ H p
  by_cases hlt : i < xs.length
  · refine .inr ⟨⟨xs, xs[i], q, by simp [hlt]⟩, Pv (i + 1), fun σ' H' p' => ⟨xs.length - (i + 1), by omega, rfl, hlt, p'⟩, fun x H' y => ?_⟩
    obtain ⟨T, x, rfl, n0, rfl, hx⟩ := y
    exact hs i x T σ _ (hx xs q) (hn i σ H T x p n0) upd_same
  · have e : i = xs.length := by omega
    subst e
    exact .inl ⟨⟨xs, q, Nat.le_refl _⟩, hd σ H p⟩
end Sl

set_option Elab.async false
set_option linter.all false
set_option maxRecDepth 100000
set_option maxHeartbeats 400000
/-! ## Open terms as data -/
namespace Sl
open PySem PySem.Spec PyProof.Rows L2
def nmTail (x : Str) : Bool := Txt.isascii x && (Txt.isalpha x && (Txt.islower x && !(x == "fun" || x == "let" || x == "in")))
def nmOk (x : Str) : Bool := decide (1 ≤ x.length ∧ x.length ≤ 8) && nmTail x
def D.isName : D → Bool
  | .str x => nmOk x
  | _ => false
def D.short : D → Bool
  | .tup l => decide (l.length ≤ 3)
  | _ => false
def D.fst : D → Str
  | .tup [.str x, _] => x
  | _ => ""
def D.snd : D → D
  | .tup [_, b] => b
  | _ => .non
def D.items : D → List D
  | .tup l => l
  | _ => []
def D.pair : D → Bool
  | .tup [a, _] => a.isName
  | _ => false
def D.defs : D → Bool
  | .tup l => decide (1 ≤ l.length ∧ l.length ≤ 100) && (l.all D.pair && decide (l.map D.fst).Nodup)
  | _ => false
def built3 (s : Str) (b c : D) : Bool := if s = "word" then b.isName && c.short else if s = "fun" then b.isName else decide (s = "let") && b.defs
/-- what the program asks of one part -/
def built : D → Bool
  | .tup [.str s, b] => decide (s = "name") && b.isName
  | .tup [.str s, b, c] => built3 s b c
  | _ => false
def inn3 (s : Str) (b c : D) : List D := if s = "word" then c.items else if s = "fun" then [c] else b.items.map D.snd ++ [c]
/-- the terms directly in one -/
def inn : D → List D
  | .tup [.str s, b, c] => inn3 s b c
  | _ => []
def D.small : D → Bool
  | .str x => decide (x.length ≤ 1000)
  | _ => true
def D.pairS : D → Bool
  | .tup [a, _] => a.small
  | _ => true
def D.smalls : D → Bool
  | .tup l => decide (l.length ≤ 1000) && l.all D.pairS
  | x => x.small
/-- what is asked for the first places of a tuple -/
def D.hd : D → Bool
  | .tup [a, b] => match a with | .str _ => b.small | _ => false
  | .tup [a, b, c] => match a with | .str _ => b.smalls | _ => false
  | _ => true
theorem nm_small {x : Str} (h : nmOk x = true) : x.length ≤ 8 := by
  unfold nmOk at h
  simp only [Bool.and_eq_true, decide_eq_true_eq] at h
  exact h.1.2
theorem isName_small {d : D} (h : d.isName = true) : d.small = true := by
  unfold D.isName at h
  split at h
  · rename_i x
    have := nm_small h
    exact decide_eq_true (by omega)
  · cases h
theorem isName_smalls {d : D} (h : d.isName = true) : d.smalls = true := by
  unfold D.isName at h
  split at h
  · rename_i x
    have := nm_small h
    exact decide_eq_true (by omega)
  · cases h
def OpN : Nat → D → Prop
  | 0, _ => False
  | n + 1, d => (built d = true ∧ (inn d).length ≤ 4) ∧ ∀ e ∈ inn d, OpN n e
def cnt : Nat → D → Nat
  | 0, _ => 0
  | n + 1, d => 1 + ((inn d).map (cnt n)).sum
def HdN : Nat → D → Prop
  | 0, _ => True
  | n + 1, d => d.hd = true ∧ ∀ e ∈ inn d, HdN n e
def Bad : Nat → D → Prop
  | 0, d => built d = false
  | n + 1, d => built d = false ∨ ∃ e ∈ inn d, Bad n e
def opn : Nat → Nat → List D → Bool
  | 0, _, _ => false
  | k + 1, m, l => if m + l.length > 500 ∨ l.all built = false then false else if (l.flatMap inn).isEmpty = true then true else opn k (m + l.length) (l.flatMap inn)
def isOpen (d : D) : Bool := opn 120 0 [d]
theorem defs_smalls {d : D} (h : d.defs = true) : d.smalls = true := by
  unfold D.defs at h
  split at h
  · rename_i l
    simp only [Bool.and_eq_true, decide_eq_true_eq, List.all_eq_true] at h
    show (decide (l.length ≤ 1000) && l.all D.pairS) = true
    simp only [Bool.and_eq_true, decide_eq_true_eq, List.all_eq_true]
    refine ⟨by omega, fun x hx => ?_⟩
    have hp := h.2.1 x hx
    unfold D.pair at hp
    split at hp
    · exact isName_small hp
    · cases hp
  · cases h
theorem built_hd {d : D} (h : built d = true) : d.hd = true := by
  unfold built at h
  split at h
  · simp only [Bool.and_eq_true] at h
    exact isName_small h.2
  · rename_i s b c
    unfold built3 at h
    show b.smalls = true
    split at h
    · simp only [Bool.and_eq_true] at h
      exact isName_smalls h.1
    · split at h
      · exact isName_smalls h
      · simp only [Bool.and_eq_true] at h
        exact defs_smalls h.2
  · cases h
theorem OpN.hd : ∀ {n : Nat} {d : D}, OpN n d → ∀ k, HdN k d
  | 0, _, h, _ => h.elim
  | n + 1, d, h, 0 => trivial
  | n + 1, d, h, k + 1 => ⟨built_hd h.1.1, fun e he => OpN.hd (h.2 e he) k⟩
theorem sum_flat (g : D → Nat) : ∀ l : List D, ((l.flatMap inn).map g).sum = (l.map fun d => ((inn d).map g).sum).sum
  | [] => rfl
  | d :: l => by
    rw [List.flatMap_cons, List.map_append, List.sum_append, sum_flat g l, List.map_cons, List.sum_cons]
theorem sum_one (g : D → Nat) : ∀ l : List D, (l.map fun d => 1 + g d).sum = l.length + (l.map g).sum
  | [] => rfl
  | d :: l => by
    rw [List.map_cons, List.sum_cons, sum_one g l, List.map_cons, List.sum_cons, List.length_cons]
    omega
theorem opn_true : ∀ (n : Nat) (l : List D) (m k : Nat), (∀ d ∈ l, OpN n d) → l ≠ [] → m + (l.map (cnt n)).sum ≤ 500 → n ≤ k → opn k m l = true
  | 0, [], _, _, _, h, _, _ => absurd rfl h
  | 0, d :: _, _, _, h, _, _, _ => (h d List.mem_cons_self).elim
  | n + 1, l, m, 0, _, _, _, h => absurd h (by omega)
  | n + 1, l, m, k + 1, h, hne, hs, hk => by
    have e1 : (l.map (cnt (n + 1))).sum = l.length + ((l.flatMap inn).map (cnt n)).sum := by
      rw [sum_flat]
      exact sum_one (fun d => ((inn d).map (cnt n)).sum) l
    have hb : l.all built = true := List.all_eq_true.mpr fun d hd => (h d hd).1.1
    unfold opn
    rw [if_neg (by rw [hb]; simp; omega)]
    split
    · rfl
    · rename_i hq
      refine opn_true n _ _ k (fun e he => ?_) (fun z => hq (by rw [z]; rfl)) (by omega) (by omega)
      obtain ⟨d, hd, he⟩ := List.mem_flatMap.mp he
      exact (h d hd).2 e he
theorem opn_false : ∀ (n k m : Nat) (l : List D), n < k → (∃ d ∈ l, Bad n d) → opn k m l = false
  | _, 0, _, _, h, _ => absurd h (by omega)
  | 0, k + 1, m, l, _, ⟨d, hd, hb⟩ => by
    unfold opn
    rw [if_pos]
    right
    refine Bool.eq_false_iff.mpr fun z => ?_
    have := List.all_eq_true.mp z d hd
    rw [show built d = false from hb] at this
    cases this
  | n + 1, k + 1, m, l, hk, ⟨d, hd, hb⟩ => by
    unfold opn
    by_cases hq : m + l.length > 500 ∨ l.all built = false
    · rw [if_pos hq]
    · rw [if_neg hq]
      rcases hb with hb | ⟨e, he, hb⟩
      · refine absurd (Or.inr ?_) hq
        refine Bool.eq_false_iff.mpr fun z => ?_
        have := List.all_eq_true.mp z d hd
        rw [hb] at this
        cases this
      · have hm : e ∈ l.flatMap inn := List.mem_flatMap.mpr ⟨d, hd, he⟩
        rw [if_neg (fun z => by
          have z' := List.isEmpty_iff.mp z
          rw [z'] at hm
          cases hm)]
        exact opn_false n k _ _ (by omega) ⟨e, hm, hb⟩
theorem isOpen_of {n : Nat} {d : D} (h : OpN n d) (hn : n ≤ 120) (hc : cnt n d ≤ 500) : isOpen d = true :=
  opn_true n [d] 0 120 (fun x hx => by rw [List.mem_singleton.mp hx]; exact h) (by simp) (by simp; omega) hn
theorem isOpen_bad {n : Nat} {d : D} (h : Bad n d) (hn : n < 120) : isOpen d = false := opn_false n 120 0 [d] hn ⟨d, List.mem_singleton.mpr rfl, h⟩
theorem cnt_pos {n : Nat} {d : D} (h : OpN n d) : 1 ≤ cnt n d := by
  cases n with
  | zero => exact h.elim
  | succ n => unfold cnt; omega
theorem cnt_mem {n : Nat} {d e : D} (he : e ∈ inn d) : cnt n e + 1 ≤ cnt (n + 1) d := by
  have key : ∀ l : List D, e ∈ l → cnt n e ≤ (l.map (cnt n)).sum := by
    intro l
    induction l with
    | nil => intro h; cases h
    | cons x l ih =>
      intro h
      rw [List.map_cons, List.sum_cons]
      rcases List.mem_cons.mp h with rfl | h
      · omega
      · have := ih h
        omega
  have := key _ he
  have e2 : cnt (n + 1) d = 1 + ((inn d).map (cnt n)).sum := rfl
  omega
/-! ### the four forms -/
def mkU (x : Str) : D := .tup [.str "name", .str x]
def mkW (x : Str) (l : List D) : D := .tup [.str "word", .str x, .tup l]
def mkF (x : Str) (b : D) : D := .tup [.str "fun", .str x, b]
def mkPs (ps : List (Str × D)) : List D := ps.map fun p => .tup [.str p.1, p.2]
def mkL (ps : List (Str × D)) (b : D) : D := .tup [.str "let", .tup (mkPs ps), b]
theorem ne_wf : ¬ ((("fun" : Str)) = "word") := by decide +kernel
theorem ne_wl : ¬ ((("let" : Str)) = "word") := by decide +kernel
theorem ne_fl : ¬ ((("let" : Str)) = "fun") := by decide +kernel
theorem mkPs_fst (ps : List (Str × D)) : (mkPs ps).map D.fst = ps.map (·.1) := by
  unfold mkPs
  rw [List.map_map]
  rfl
theorem mkPs_snd (ps : List (Str × D)) : (mkPs ps).map D.snd = ps.map (·.2) := by
  unfold mkPs
  rw [List.map_map]
  rfl
theorem mkPs_all (ps : List (Str × D)) : (mkPs ps).all D.pair = ps.all fun p => nmOk p.1 := by
  unfold mkPs
  rw [List.all_map]
  rfl
@[simp] theorem inn_U (x : Str) : inn (mkU x) = [] := rfl
@[simp] theorem inn_W (x : Str) (l : List D) : inn (mkW x l) = l := by
  show inn3 "word" (.str x) (.tup l) = l
  unfold inn3
  rw [if_pos rfl]
  rfl
@[simp] theorem inn_F (x : Str) (b : D) : inn (mkF x b) = [b] := by
  show inn3 "fun" (.str x) b = [b]
  unfold inn3
  rw [if_neg ne_wf, if_pos rfl]
@[simp] theorem inn_L (ps : List (Str × D)) (b : D) : inn (mkL ps b) = ps.map (·.2) ++ [b] := by
  show inn3 "let" (.tup (mkPs ps)) b = _
  unfold inn3
  rw [if_neg ne_wl, if_neg ne_fl]
  show (mkPs ps).map D.snd ++ [b] = _
  rw [mkPs_snd]
theorem built_U {x : Str} : built (mkU x) = nmOk x := by
  show (decide (("name" : Str) = "name") && nmOk x) = _
  rw [decide_eq_true rfl, Bool.true_and]
theorem built_W {x : Str} {l : List D} : built (mkW x l) = (nmOk x && decide (l.length ≤ 3)) := by
  show built3 "word" (.str x) (.tup l) = _
  unfold built3
  rw [if_pos rfl]
  rfl
theorem built_F {x : Str} {b : D} : built (mkF x b) = nmOk x := by
  show built3 "fun" (.str x) b = _
  unfold built3
  rw [if_neg ne_wf, if_pos rfl]
  rfl
/-- definitions as a block has them -/
def DefOk (ps : List (Str × D)) : Prop := 1 ≤ ps.length ∧ ps.length ≤ 100 ∧ (∀ p ∈ ps, nmOk p.1 = true) ∧ (ps.map (·.1)).Nodup
theorem built_L {ps : List (Str × D)} {b : D} : built (mkL ps b) = true ↔ DefOk ps := by
  show built3 "let" (.tup (mkPs ps)) b = true ↔ _
  unfold built3
  rw [if_neg ne_wl, if_neg ne_fl]
  show (decide (("let" : Str) = "let") && (decide (1 ≤ (mkPs ps).length ∧ (mkPs ps).length ≤ 100) && ((mkPs ps).all D.pair && decide ((mkPs ps).map D.fst).Nodup))) = true ↔ _
  rw [mkPs_all, mkPs_fst, show (mkPs ps).length = ps.length from List.length_map ..]
  simp only [decide_true, Bool.true_and, Bool.and_eq_true, decide_eq_true_eq, List.all_eq_true, DefOk, and_assoc]
/-- what is built is one of the four -/
theorem defs_of {b : D} (h : b.defs = true) : ∃ ps, b = .tup (mkPs ps) ∧ DefOk ps := by
  cases b with
  | tup l =>
    simp only [D.defs, Bool.and_eq_true, decide_eq_true_eq, List.all_eq_true] at h
    obtain ⟨⟨h1, h2⟩, h3, h4⟩ := h
    have key : ∀ l : List D, (∀ d ∈ l, d.pair = true) → ∃ ps : List (Str × D), l = mkPs ps := by
      intro l
      induction l with
      | nil => exact fun _ => ⟨[], rfl⟩
      | cons d l ih =>
        intro hp
        obtain ⟨ps, e⟩ := ih fun x hx => hp x (List.mem_cons_of_mem _ hx)
        have hd := hp d List.mem_cons_self
        unfold D.pair at hd
        split at hd
        · rename_i a b
          unfold D.isName at hd
          split at hd
          · rename_i x
            exact ⟨(x, b) :: ps, by rw [e]; rfl⟩
          · cases hd
        · cases hd
    obtain ⟨ps, e⟩ := key l h3
    subst e
    refine ⟨ps, rfl, ?_⟩
    rw [mkPs_fst] at h4
    refine ⟨by simpa [mkPs] using h1, by simpa [mkPs] using h2, fun p hp => ?_, h4⟩
    exact h3 (.tup [.str p.1, p.2]) (List.mem_map.mpr ⟨p, hp, rfl⟩)
  | _ => cases h
theorem built_cases {d : D} (h : built d = true) : (∃ x, d = mkU x ∧ nmOk x = true) ∨ (∃ x l, d = mkW x l ∧ nmOk x = true ∧ l.length ≤ 3) ∨ (∃ x b, d = mkF x b ∧ nmOk x = true) ∨ ∃ ps b, d = mkL ps b ∧ DefOk ps := by
  unfold built at h
  split at h
  · rename_i s b
    simp only [Bool.and_eq_true, decide_eq_true_eq] at h
    obtain ⟨rfl, h⟩ := h
    unfold D.isName at h
    split at h
    · rename_i x
      exact .inl ⟨x, rfl, h⟩
    · cases h
  · rename_i s b c
    unfold built3 at h
    split at h
    · rename_i e
      subst e
      simp only [Bool.and_eq_true] at h
      obtain ⟨h1, h2⟩ := h
      unfold D.isName at h1
      split at h1
      · rename_i x
        unfold D.short at h2
        split at h2
        · rename_i l
          exact .inr (.inl ⟨x, l, rfl, h1, of_decide_eq_true h2⟩)
        · cases h2
      · cases h1
    · split at h
      · rename_i e
        subst e
        unfold D.isName at h
        split at h
        · rename_i x
          exact .inr (.inr (.inl ⟨x, c, rfl, h⟩))
        · cases h
      · simp only [Bool.and_eq_true, decide_eq_true_eq] at h
        obtain ⟨rfl, h⟩ := h
        obtain ⟨ps, rfl, hp⟩ := defs_of h
        exact .inr (.inr (.inr ⟨ps, c, rfl, hp⟩))
  · cases h
theorem inn_len {d : D} (h : built d = true) : (inn d).length ≤ 101 := by
  rcases built_cases h with ⟨x, rfl, _⟩ | ⟨x, l, rfl, _, hl⟩ | ⟨x, b, rfl, _⟩ | ⟨ps, b, rfl, hp⟩
  · simp
  · rw [inn_W]; omega
  · simp
  · rw [inn_L, List.length_append, List.length_map]
    have := hp.2.1
    simp
    omega
theorem flat_len : ∀ {l : List D}, (∀ d ∈ l, built d = true) → (l.flatMap inn).length ≤ 101 * l.length
  | [], _ => by simp
  | d :: l, h => by
    rw [List.flatMap_cons, List.length_append, List.length_cons]
    have h1 := inn_len (h d List.mem_cons_self)
    have h2 := flat_len fun x hx => h x (List.mem_cons_of_mem (a := x) d hx)
    omega
end Sl

set_option Elab.async false
set_option linter.all false
set_option maxRecDepth 100000
set_option maxHeartbeats 3200000
/-! ## How many different strings a list has -/
namespace Sl
open PySem PySem.Spec PyProof.Rows L2
/-- the strings that are met first -/
def met : List Str → Nat → List Str
  | _, 0 => []
  | xs, i + 1 => if (met xs i).any (· == xs.getD i Str.empty) = true then met xs i else met xs i ++ [xs.getD i Str.empty]
theorem met_len (xs : List Str) : ∀ i, (met xs i).length ≤ i
  | 0 => Nat.le_refl 0
  | i + 1 => by
    have := met_len xs i
    unfold met
    split
    · omega
    · rw [List.length_append]
      simp
      omega
theorem met_any (xs : List Str) (i : Nat) (y : Str) : ((met xs i).any (· == y) || decide (y = xs.getD i Str.empty)) = (met xs (i + 1)).any (· == y) := by
  rw [show met xs (i + 1) = if (met xs i).any (· == xs.getD i Str.empty) = true then met xs i else met xs i ++ [xs.getD i Str.empty] from rfl]
  by_cases e : y = xs.getD i Str.empty
  · subst e
    split
    · rename_i h
      rw [h]
      rfl
    · rw [List.any_append]
      simp
  · rw [decide_eq_false e, Bool.or_false]
    split
    · rfl
    · rw [List.any_append]
      have : ([xs.getD i Str.empty].any (· == y)) = false := by
        simp only [List.any_cons, List.any_nil, Bool.or_false]
        exact beq_eq_false_iff_ne.mpr fun z => e z.symm
      rw [this, Bool.or_false]
theorem met_step (xs : List Str) (i : Nat) : (if (met xs i).any (· == xs.getD i Str.empty) = true then (met xs i).length else (met xs i).length + 1) = (met xs (i + 1)).length := by
  rw [show met xs (i + 1) = if (met xs i).any (· == xs.getD i Str.empty) = true then met xs i else met xs i ++ [xs.getD i Str.empty] from rfl]
  split
  · rfl
  · rw [List.length_append] <;> rfl
theorem met_nodup {xs : List Str} (h : xs.Nodup) : ∀ i, i ≤ xs.length → met xs i = xs.take i
  | 0, _ => rfl
  | i + 1, hi => by
    have hlt : i < xs.length := hi
    have e := met_nodup h i (by omega)
    have e1 : xs.getD i Str.empty = xs[i] := by simp [hlt]
    have no : (xs.take i).any (· == xs[i]) = false := by
      refine Bool.eq_false_iff.mpr fun z => ?_
      obtain ⟨y, hy, hz⟩ := List.any_eq_true.mp z
      obtain ⟨j, hj, ej⟩ := List.getElem_of_mem hy
      rw [List.length_take] at hj
      rw [List.getElem_take] at ej
      have e2 := beq_iff_eq.mp hz
      rw [← ej] at e2
      have := (List.nodup_iff_pairwise_ne.mp h)
      exact absurd e2 ((List.pairwise_iff_getElem.mp this) j i (by omega) hlt (by omega))
    rw [show met xs (i + 1) = if (met xs i).any (· == xs.getD i Str.empty) = true then met xs i else met xs i ++ [xs.getD i Str.empty] from rfl, e, e1, no, List.take_add_one, List.getElem?_eq_getElem hlt]
    rfl
/-- as many as the list is long: all different -/
theorem met_all (xs : List Str) : ∀ i, i ≤ xs.length → (met xs i).length = i → (xs.take i).Nodup ∧ met xs i = xs.take i
  | 0, _, _ => ⟨List.nodup_nil, rfl⟩
  | i + 1, hi, h => by
    have hlt : i < xs.length := hi
    have e1 : xs.getD i Str.empty = xs[i] := by simp [hlt]
    have hl := met_len xs i
    have s := met_step xs i
    rw [h] at s
    by_cases q : (met xs i).any (· == xs.getD i Str.empty) = true
    · rw [if_pos q] at s
      omega
    · rw [if_neg q] at s
      obtain ⟨h1, h2⟩ := met_all xs i (by omega) (by omega)
      have e3 : met xs (i + 1) = met xs i ++ [xs.getD i Str.empty] := by
        rw [show met xs (i + 1) = if (met xs i).any (· == xs.getD i Str.empty) = true then met xs i else met xs i ++ [xs.getD i Str.empty] from rfl, if_neg q]
      have e4 : xs.take (i + 1) = xs.take i ++ [xs[i]] := by
        rw [List.take_add_one, List.getElem?_eq_getElem hlt]
        rfl
      rw [e3, h2, e1, e4]
      refine ⟨?_, rfl⟩
      rw [List.nodup_append]
      refine ⟨h1, by simp, fun a ha b hb z => q ?_⟩
      rw [List.mem_singleton.mp hb] at z
      rw [h2, e1]
      exact List.any_eq_true.mpr ⟨a, ha, by rw [z]; exact beq_self_eq_true _⟩
theorem met_full {xs : List Str} : decide ((met xs xs.length).length = xs.length) = decide xs.Nodup := by
  refine decide_eq_decide.mpr ⟨fun h => ?_, fun h => ?_⟩
  · have := (met_all xs _ (Nat.le_refl _) h).1
    rwa [List.take_length] at this
  · rw [met_nodup h _ (Nat.le_refl _), List.take_length]
section
variable {prog : Program} {w : World} {A : Around} {R : Result → Shared → Prop} {it : Addr} {fp wr : List Addr} {Gn : Array GenState → Array GenState → Prop} {n : Nat} {Pi : Nat → Value → Prop} {Si : Nat → Shared → Prop}
theorem set_loop (Wk : WalksS prog w A.in1 it fp wr Gn n Pi Si) (d : Addr) (off : d ∉ fp) (xs : List Str) (small : n + 1 < scanBound)
    (each : ∀ j v, Pi j v → ∃ t, v = .str (xs.getD j Str.empty) t) :
    ∀ (m i : Nat) (z : Shared), n - i = m → i ≤ n → Si i z → z.heap.SetOf (PySem.strKind prog w) d (fun y => (met xs i).any (· == y)) (met xs i).length →
      (∀ z', Moved (d :: wr) Gn z z' → z'.heap.SetOf (PySem.strKind prog w) d (fun y => (met xs n).any (· == y)) (met xs n).length → R (.ok (.ret .none)) z') →
      codeAny (model prog w) A (.builtin "set.update.loop" ⟨[.ref d, .ref it], []⟩) R z := by
  have nw : d ∉ wr := fun q => off (Wk.sub _ q)
  have sub : ∀ b ∈ wr, b ∈ d :: wr := fun b q => List.mem_cons_of_mem _ q
  intro m
  induction m with
  | zero =>
    intro i z e1 le at_i held fin
    obtain rfl : i = n := by omega
    refine codeAny_builtin PyProof.Rows.F.entry_set_update_loop ?_
    rw [Around.under_plainId PyProof.Rows.F.plain_set_update_loop _]
    show wpAny _ A.in1 (pyNext (.ref it) >>= _) _ _ z
    refine wpAny_bind (Wk.done z _ _ at_i fun z1 mv => wpAny_pure (fin z1 (mv.mono sub) ?_))
    obtain ⟨ob, u1, u2, u3, gt, more⟩ := held
    exact ⟨ob, u1, u2, u3, mv.heap d _ nw gt, more⟩
  | succ m ih =>
    intro i z e1 le at_i held fin
    have lt : i < n := by omega
    refine codeAny_builtin PyProof.Rows.F.entry_set_update_loop ?_
    rw [Around.under_plainId PyProof.Rows.F.plain_set_update_loop _]
    show wpAny _ A.in1 (pyNext (.ref it) >>= _) _ _ z
    refine wpAny_bind (Wk.item i z _ _ lt at_i fun v z1 pv at_1 mv => ?_)
    obtain ⟨t, rfl⟩ := each i v pv
    have held1 : z1.heap.SetOf (PySem.strKind prog w) d (fun y => (met xs i).any (· == y)) (met xs i).length := by
      obtain ⟨ob, u1, u2, u3, gt, more⟩ := held
      exact ⟨ob, u1, u2, u3, mv.heap d _ nw gt, more⟩
    show wpAny _ A.in1 (holding [Value.str (xs.getD i Str.empty) t] (setAdd d (.str (xs.getD i Str.empty) t)) >>= _) _ _ z1
    refine wpAny_bind (wpAny_holding ?_)
    unfold setAdd
    refine wpAny_holding (wpAny_bind ((PySem.strKind prog w).pyHash (k := xs.getD i Str.empty) (strKind_is _ _ _ _) ?_))
    have ml := met_len xs i
    refine wpAny_setAddHashed_of (knd := PySem.strKind prog w) (s := { z1 with toks := z1.toks + 1 }) (strKind_is _ _ _ _) rfl held1 (by omega) fun h2 sb held2 => ?_
    have held3 := SetOf_congr held2 (fun y => met_any xs i y) (met_step xs i)
    refine wpAny_pure ⟨plainId_quiet PyProof.Rows.F.plain_set_update_loop _, ih (i + 1) _ (by omega) lt (Wk.frame _ z1 _ _ at_1 (Nat.le_succ _) fun b q o e => ?_) held3 fun z2 mv2 held4 => ?_⟩
    · rw [sb.2 b (fun h : b = d => off (by rw [← h]; exact q))]
      exact e
    · refine fin z2 (Moved.trans Wk.gtrans ((mv.mono sub).then_heap (Nat.le_succ _) fun b o q e => ?_) mv2) held4
      rw [sb.2 b (fun h : b = d => q (by rw [h]; exact List.mem_cons_self))]
      exact e
end
section
variable {prog : Program} {w : World} {A : Around} {E : Value → Shared → Prop} {z : Shared}
theorem call_setStrs {l : Addr} {its : Array Value} {xs : List Str} {Q : Value → Shared → Prop}
    (cool : A.handled = none) (isL : z.heap.IsList l its) (all : PyProof.Rows.StrsAre its.toList xs) (small : xs.length + 1 < scanBound)
    (q : ∀ (h' : Heap) (tk : Nat), h'.SetOf (PySem.strKind prog w) z.heap.objs.size (fun y => (met xs xs.length).any (· == y)) (met xs xs.length).length →
      (∀ b o, b < z.heap.objs.size → z.heap.get? b = some o → h'.get? b = some o) → Q (.ref z.heap.objs.size) { z with heap := h', toks := tk }) :
    wpAny (model prog w) A (call (.type "set") [.ref l]) Q E z := by
  obtain ⟨c0, tl, mro⟩ := PySem.F.called_set.mro
  have made := PySem.F.called_set.made
  have sub0 := PySem.F.called_set.sub
  have len : xs.length = its.size := by rw [← StrsAre.len_eq all, Array.length_toList]
  refine wpAny_call (codeAny_of_tree ?_)
  show wpAny _ _ (callAny (.type "set") _) _ _ _
  refine wpAny_pure ⟨Code.quiet_builtin _ (by decide +kernel), codeAny_builtin PySem.F.entry_type_call ?_⟩
  rw [Around.under_plain (weight_type_call_type "set" [.ref l] []) rfl]
  have f1 := PySem.F.called_set.notType
  have f2 := PySem.F.called_set.canCreate
  have f3 := PySem.F.typeCall_set_1 (.ref l)
  repeat (any_goals (first | assumption | wp_step))
  refine codeAny_mono (code_set_new_1 (.ref l) (E := E) (Q₁ := fun ob z1 => ∃ led : Bool, ob = .ref z.heap.objs.size ∧ z1 = { z with heap := z.heap.push { cls := .type "set", dict := none, data := .set #[] 0 (.fresh 0 0 led) } }) fun led => ⟨led, rfl, rfl⟩) fun r z1 hr => ?_
  match r, hr with
  | .error e, hr => exact hr
  | .ok (.ret ob), hr =>
    obtain ⟨led, rfl, rfl⟩ := hr
    have hS : (z.heap.push { cls := .type "set", dict := none, data := .set #[] 0 (.fresh 0 0 led) }).get? z.heap.objs.size = some { cls := .type "set", dict := none, data := .set #[] 0 (.fresh 0 0 led) } := Heap.get?_push_size _ rfl
    have hT : Shared.TypeIs { z with heap := z.heap.push { cls := .type "set", dict := none, data := .set #[] 0 (.fresh 0 0 led) } } (.ref z.heap.objs.size) "set" := ⟨_, hS, rfl⟩
    have f4 := PySem.F.called_set.init.lookup
    have f5 := PySem.F.called_set.init.bind (.ref z.heap.objs.size)
    repeat (any_goals (first | assumption | wp_step))
    refine codeAny_mono (codeAny_call_builtin (R := wants (fun r z2 => r = .none ∧ ∃ h' tk, z2 = { z with heap := h', toks := tk } ∧
        h'.SetOf (PySem.strKind prog w) z.heap.objs.size (fun y => (met xs xs.length).any (· == y)) (met xs xs.length).length ∧
        (∀ b o, b < z.heap.objs.size → z.heap.get? b = some o → h'.get? b = some o)) E) PySem.F.called_set.init.plain PySem.F.entry_set_init (check_set_init_1 hT ?_)) fun r2 z2 hr2 => ?_
    · obtain ⟨⟨cls, dd, dt, sl⟩, gl, hc, nl, hd⟩ := isL
      simp only at hc hd
      subst hc hd
      have gl' : (z.heap.push { cls := .type "set", dict := none, data := .set #[] 0 (.fresh 0 0 led) }).get? l = some { cls := .type "list", dict := dd, data := .seq its nl, slots := sl } := Heap.get?_push_of_some _ gl
      have f6 := PySem.F.sub_list_set
      have f7 := PySem.F.sub_list_frozenset
      have f8 : (Value.type "list" == Value.type "dict") = false := by decide
      have isl : (z.heap.push { cls := .type "set", dict := none, data := .set #[] 0 (.fresh 0 0 led) }).IsList l its := ⟨_, gl', rfl, nl, rfl⟩
      unfold Builtin.«set.__init__» noKeywords Builtin.Frozenset.updateFrom
      generalize hPI : pyIter = PI
      wp_walk
      subst hPI
      refine wpAny_pyIter_list isl (wpAny_bind (wpAny_runValue ?_))
      have ls : l < z.heap.objs.size := Heap.lt_size gl
      have cool3 : A.in1.in1.in1.handled = none := by simp [cool]
      have ne1 : l ≠ (z.heap.push { cls := .type "set", dict := none, data := .set #[] 0 (.fresh 0 0 led) }).objs.size := by
        rw [Heap.size_push]
        exact Nat.ne_of_lt (Nat.lt_succ_of_lt ls)
      have off : z.heap.objs.size ∉ [(z.heap.push { cls := .type "set", dict := none, data := .set #[] 0 (.fresh 0 0 led) }).objs.size, l] := by
        rw [Heap.size_push]
        simp only [List.mem_cons, List.mem_singleton, List.not_mem_nil, or_false, not_or]
        exact ⟨Nat.ne_of_lt (Nat.lt_succ_self _), Nat.ne_of_gt ls⟩
      have each : ∀ (j : Nat) (v : Value), its[j]? = some v → ∃ t, v = .str (xs.getD j Str.empty) t := fun j v hv => SS.strs_at all j v (by rw [Array.getElem?_toList]; exact hv)
      refine set_loop ((Walks.list cool3 _ l ne1 its).toS) z.heap.objs.size off xs (by rw [← len]; exact small) each (its.size - 0) 0 _ (by omega) (Nat.zero_le _)
        ⟨⟨_, Heap.get?_push_size _ rfl, rfl, rfl⟩, (isl.push _)⟩ ?h0 ?h1
      case h0 =>
        have get0 : ((z.heap.push { cls := .type "set", dict := none, data := .set #[] 0 (.fresh 0 0 led) }).push { cls := .type "list_iterator", data := .fields #[.ref l, .int 0 0] }).get? z.heap.objs.size
            = some { cls := .type "set", dict := none, data := .set #[] 0 (.fresh 0 0 led) } := Heap.get?_push_of_some _ hS
        exact PyProof.Rows.SetOf_congr ((PyProof.Rows.setObjOf_fresh (knd := PySem.strKind prog w) led).setOf get0 (by unfold scanBound; omega)) (fun _ => rfl) rfl
      case h1 =>
        intro z3 mv held
        obtain ⟨h3, g3, d3, t3, o3⟩ := z3
        have eg : g3 = z.gens := mv.gens
        have ed : d3 = z.drawn := mv.drawn
        have eo : o3 = z.os := mv.os
        subst eg ed eo
        show wpAny _ _ _ _ _ _
        refine wpAny_pure ?_
        show wpAny _ _ (ret Value.none) _ _ _
        refine wpAny_pure ⟨rfl, h3, t3, rfl, by rw [len]; exact held, fun b o lt e => ?_⟩
        have b1 : b ≠ z.heap.objs.size := Nat.ne_of_lt lt
        have b2 : b ≠ (z.heap.push { cls := .type "set", dict := none, data := .set #[] 0 (.fresh 0 0 led) }).objs.size := by
          rw [Heap.size_push]
          exact Nat.ne_of_lt (Nat.lt_succ_of_lt lt)
        exact mv.heap b o (by simp only [List.mem_cons, List.mem_singleton, List.not_mem_nil, or_false, not_or]; exact ⟨b1, b2⟩) (Heap.get?_push_of_some _ (Heap.get?_push_of_some _ e))
    · match r2, hr2 with
      | .error e, hr2 => exact hr2
      | .ok (.ret r3), hr2 =>
        obtain ⟨rfl, h', tk, rfl, held, keep⟩ := hr2
        repeat (any_goals (first | assumption | wp_step))
        exact q _ _ held keep
end
/-- len(set(l)), l a list of strings -/
def tLenStrs (K : PySem.W.Frag) (ta : TE) : TE := fun σ H Q => ta σ H fun x H1 => ∃ (l : Addr) (xs : List Str), x = .ref l ∧ SqL K H1 l (xs.map V.str) ∧ xs.length ≤ 1000 ∧ Q (.int ((met xs xs.length).length : Nat)) H1
theorem pe_lenStrs {X : Cx} {a : Expr} {ta : TE} {p p2 q pos : Pos} (hg : Gl X "len") (hm : X.mg "len" = none) (hg2 : Gl X "set") (hm2 : X.mg "set" = none) (ha : PE X a ta) (cool : X.calm = true := by rfl)
    (na : starEach [a] X.env = (false, eval a X.env) :: starEach [] X.env := by rfl) : PE X (.Call (.Name "len" p) [.Call (.Name "set" p2) [a] [] q] [] pos) (tLenStrs X.K ta) := by
  constructor
  intro pins z σ H Q I h
  refine Call_ (ld_blt I hg hm boot_len (PyProof.Rows.callWith_builtin1 (PyProof.Rows.args_cons ?_ rfl) rfl rfl))
  refine Call_ (ld_blt I hg2 hm2 boot_set (PyProof.Rows.callWith_type1 (PyProof.Rows.args_cons (thn (ha.run pins z σ H _ I h) fun v z1 ⟨x, H1, I1, r1, q1⟩ => PyProof.Rows.args_nil ?_) na) na rfl))
  obtain ⟨l, xs, rfl, hq, hl, q1⟩ := q1
  cases r1
  obtain ⟨its, r, pl, hz⟩ := I1.list hq
  have len : xs.length = its.toArray.size := by rw [List.size_toArray, ← r.length, List.length_map]
  refine call_setStrs (I1.ok.hd cool) pl.isList (by simpa using strsAre_of r) (by unfold scanBound; omega) fun h' tk held keep => PyProof.Rows.args_nil ?_
  obtain ⟨ob, es, ep, t, gt, hex, hd, _, _, _, hf, hn⟩ := held
  have I2 : Inv X pins σ H1 { z1 with heap := h', toks := tk } := I1.kept fun b o e => keep b o (Heap.lt_size e) e
  have ml := met_len xs xs.length
  exact call_len_set gt hex hd hf (by rw [hn] <;> omega) ⟨.int ((met xs xs.length).length : Nat), H1, I2.tok _, ⟨_, by rw [hn]⟩, q1⟩
end Sl

set_option Elab.async false
set_option linter.all false
set_option maxRecDepth 100000
set_option maxHeartbeats 400000
/-! ## [y for x in l for y in f(x)], f(x) a tuple -/
namespace Sl
open PySem PySem.Spec PyProof.Rows L2
theorem RddAll.app' {K : PySem.W.Frag} {H : Hp} : ∀ {xs ys : List V} {ds es : List D}, RddAll K H xs ds → RddAll K H ys es → RddAll K H (xs ++ ys) (ds ++ es)
  | _, _, _, _, .nil, h => h
  | _, _, _, _, .cons a b, h => .cons a (b.app' h)
theorem flat_take {f : D → List D} {ds : List D} {i : Nat} {d : D} (h : ds[i]? = some d) : (ds.take (i + 1)).flatMap f = (ds.take i).flatMap f ++ f d := by
  rw [List.take_add_one, h, List.flatMap_append]
  simp
theorem flat_le {f : D → List D} {ds : List D} (i : Nat) : ((ds.take i).flatMap f).length ≤ (ds.flatMap f).length := by
  have e : ds.flatMap f = (ds.take i).flatMap f ++ (ds.drop i).flatMap f := by rw [← List.flatMap_append, List.take_append_drop]
  rw [e, List.length_append]
  omega
theorem lc2F {K : PySem.W.Frag} {a D0 : Addr} {xs : List V} {ds : List D} {f : D → List D} {wi1 : TI} {vs vs1 : List Nat} {i1 i2 : Nat} {σ : L2.St} {H1 : Hp} {Qd : Hp → Prop} (tot : (ds.flatMap f).length ≤ 100000) (hT : SqL K H1 a xs) (hR : RddAll K H1 xs ds) (hD : H1 D0 = none)
    (w1 : ∀ x, wipe ((wipe σ vs).set i1 (some x)) vs = wipe σ vs)
    (w2 : ∀ x y, wipe ((wipe ((wipe σ vs).set i1 (some x)) vs1).set i2 (some y)) vs1 = wipe ((wipe σ vs).set i1 (some x)) vs1)
    (g2 : ∀ x y, ((wipe ((wipe σ vs).set i1 (some x)) vs1).set i2 (some y))[i2]? = some (some y))
    (hs : ∀ (x : V) (d : D) (H : Hp) (R : It → Hp → Prop), d ∈ ds → Rdd K H x d → Same H1 H → (∀ b ys H', Same H H' → SqT K H' b ys → RddAll K H' ys (f d) → R (Itt K b) H') → wi1 ((wipe σ vs).set i1 (some x)) H R)
    (hd : ∀ H acc, Same H1 H → H D0 = some (.lst acc) → RddAll K H acc (ds.flatMap f) → Qd H) :
    ∃ W : Nat → Nat → Hp → Prop, (∃ m, W 0 m (upd H1 D0 (.lst []))) ∧ ∀ i m H, W i m H →
      ((Itl K a).stop i H ∧ Qd H) ∨ ((Itl K a).go i H ∧ ∃ Nx : Hp → Prop, (∀ H', Nx H' → ∃ m', m' < m ∧ W (i + 1) m' H') ∧ ∀ x H', (Itl K a).yld i H x H' → gName i1 x (wipe σ vs) H' fun σ2 H2 => wipe σ2 vs = wipe σ vs ∧ tYes σ2 H2 fun b H3 =>
        if b = true then wi1 σ2 H3 fun J1 H4 => ∃ W1 : Nat → Nat → Hp → Prop, (∃ m, W1 0 m H4) ∧ ∀ j k H, W1 j k H →
          (J1.stop j H ∧ Nx H) ∨ (J1.go j H ∧ ∃ Nx1 : Hp → Prop, (∀ H', Nx1 H' → ∃ k', k' < k ∧ W1 (j + 1) k' H') ∧ ∀ x H', J1.yld j H x H' → gName i2 x (wipe σ2 vs1) H' fun σ3 H5 => wipe σ3 vs1 = wipe σ2 vs1 ∧ tYes σ3 H5 fun b H6 =>
            if b = true then tVar i2 σ3 H6 fun y H7 => ∃ acc, H7 D0 = some (.lst acc) ∧ acc.length < sizeLine ∧ Nx1 (upd H7 D0 (.lst (acc ++ [y]))) else Nx1 H6)
        else Nx H3) := by
  have len := hR.length
  have sl := sizeLine_eq
  refine ⟨fun i m H => m = xs.length - i ∧ i ≤ xs.length ∧ Off D0 H1 H ∧ ∃ acc, H D0 = some (.lst acc) ∧ RddAll K H acc ((ds.take i).flatMap f), ⟨xs.length, by simp, Nat.zero_le _, .put, [], upd_same, .nil⟩, ?_⟩
  rintro i m H ⟨rfl, hi, ho, acc, hacc, racc⟩
  have sm := same_off ho hD
  have q := Same.seq sm hT
  by_cases hlt : i < xs.length
  · obtain ⟨d, hd', rd⟩ := hR.get (List.getElem?_eq_getElem hlt)
    refine .inr ⟨⟨xs, xs[i], q, by simp [hlt]⟩, fun H => i + 1 ≤ xs.length ∧ Off D0 H1 H ∧ ∃ acc, H D0 = some (.lst acc) ∧ RddAll K H acc ((ds.take (i + 1)).flatMap f), fun H' p' => ⟨xs.length - (i + 1), by omega, rfl, p'⟩, fun x H' y => ?_⟩
    obtain ⟨e, y⟩ := y
    subst e
    have hx := y xs q
    rw [List.getElem?_eq_getElem hlt] at hx
    cases hx
    show wipe _ vs = wipe σ vs ∧ _
    refine ⟨w1 _, ?_⟩
    unfold tYes
    dsimp only
    rw [if_pos rfl]
    refine hs _ d H' _ (List.mem_of_getElem? hd') (Rdd.ex (.same sm) _ rd) sm fun b ys H4 s4 hb ry => ?_
    have lz := ry.length
    have o4 : Off D0 H1 H4 := ho.trans (.same s4)
    refine ⟨fun j k H => k = ys.length - j ∧ j ≤ ys.length ∧ Off D0 H1 H ∧ SqT K H b ys ∧ RddAll K H ys (f d) ∧ ∃ acc, H D0 = some (.lst acc) ∧ RddAll K H acc ((ds.take i).flatMap f ++ (f d).take j),
      ⟨ys.length, by simp, Nat.zero_le _, o4, hb, ry, acc, s4 _ _ hacc, by rw [List.take_zero, List.append_nil]; exact RddAll.ex (.same s4) _ racc⟩, ?_⟩
    rintro j k H ⟨rfl, hj, o5, hb5, ry5, acc5, ha5, ra5⟩
    by_cases hlt2 : j < ys.length
    · refine .inr ⟨⟨ys, ys[j], hb5, by simp [hlt2]⟩, fun H => j + 1 ≤ ys.length ∧ Off D0 H1 H ∧ SqT K H b ys ∧ RddAll K H ys (f d) ∧ ∃ acc, H D0 = some (.lst acc) ∧ RddAll K H acc ((ds.take i).flatMap f ++ (f d).take (j + 1)), fun H' p' => ⟨ys.length - (j + 1), by omega, rfl, p'⟩, fun x H' y => ?_⟩
      obtain ⟨e, y⟩ := y
      subst e
      have hx := y ys hb5
      rw [List.getElem?_eq_getElem hlt2] at hx
      cases hx
      obtain ⟨e2, he2, re2⟩ := ry5.get (List.getElem?_eq_getElem hlt2)
      show wipe _ vs1 = wipe _ vs1 ∧ _
      refine ⟨w2 _ _, ?_⟩
      have tl : acc5.length < 100000 := by
        have e3 := ra5.length
        have e4 : ((ds.take (i + 1)).flatMap f).length ≤ (ds.flatMap f).length := flat_le (i + 1)
        rw [flat_take hd', List.length_append] at e4
        rw [List.length_append, List.length_take] at e3
        omega
      dsimp only
      rw [if_pos rfl]
      refine ⟨_, g2 _ _, acc5, ha5, by omega, hlt2, o5.trans .put, ?_⟩
      have ex : Ex H' (upd H' D0 (.lst (acc5 ++ [ys[j]]))) := (Off.put (a := D0)).ex ha5 upd_same
      refine ⟨ex.tup hb5, RddAll.ex ex _ ry5, _, upd_same, ?_⟩
      rw [List.take_add_one, he2, ← List.append_assoc]
      exact (RddAll.ex ex _ ra5).app' (.cons (Rdd.ex ex _ re2) .nil)
    · have e : j = ys.length := by omega
      subst e
      refine .inl ⟨⟨ys, hb5, Nat.le_refl _⟩, hlt, o5, acc5, ha5, ?_⟩
      rw [flat_take hd']
      rw [lz, List.take_length] at ra5
      exact ra5
  · have e : i = xs.length := by omega
    subst e
    rw [len, List.take_length] at racc
    exact .inl ⟨⟨xs, q, Nat.le_refl _⟩, hd H acc sm hacc racc⟩
end Sl

set_option Elab.async false
set_option linter.all false
set_option maxRecDepth 100000
set_option maxHeartbeats 400000
/-! ## Definitions ascending by names -/
namespace Sl
open PySem PySem.Spec PyProof.Rows L2
theorem lt_irr : ∀ a : List Nat, ltCps a a = false
  | [] => rfl
  | a :: r => by
    unfold ltCps
    rw [lt_irr r]
    simp
theorem lt_tr : ∀ {a b c : List Nat}, ltCps a b = true → ltCps b c = true → ltCps a c = true
  | [], [], _, h, _ => by cases h
  | [], _ :: _, [], _, h => by cases h
  | [], _ :: _, _ :: _, _, _ => rfl
  | _ :: _, [], _, h, _ => by cases h
  | _ :: _, _ :: _, [], _, h => by cases h
  | a :: r, b :: s, c :: t, h1, h2 => by
    unfold ltCps at h1 h2 ⊢
    simp only [Bool.or_eq_true, decide_eq_true_eq, Bool.and_eq_true, beq_iff_eq] at h1 h2 ⊢
    rcases h1 with h1 | ⟨rfl, h1⟩
    · rcases h2 with h2 | ⟨rfl, h2⟩
      · exact .inl (by omega)
      · exact .inl h1
    · rcases h2 with h2 | ⟨rfl, h2⟩
      · exact .inl h2
      · exact .inr ⟨rfl, lt_tr h1 h2⟩
theorem lt_tri : ∀ {a b : List Nat}, ltCps a b = false → ltCps b a = false → a = b
  | [], [], _, _ => rfl
  | [], _ :: _, h, _ => by cases h
  | _ :: _, [], _, h => by cases h
  | a :: r, b :: s, h1, h2 => by
    unfold ltCps at h1 h2
    simp only [Bool.or_eq_false_iff, decide_eq_false_iff_not, Bool.and_eq_false_iff, beq_eq_false_iff_ne] at h1 h2
    have e : a = b := by omega
    subst e
    rcases h1.2 with h | h
    · exact absurd rfl h
    · rcases h2.2 with h' | h'
      · exact absurd rfl h'
      · rw [lt_tri h h']
def sLt (x y : Str) : Bool := ltCps x.cps.toList y.cps.toList
theorem sLt_irr (x : Str) : sLt x x = false := lt_irr _
theorem sLt_tr {x y z : Str} (h1 : sLt x y = true) (h2 : sLt y z = true) : sLt x z = true := lt_tr h1 h2
theorem sLt_tri {x y : Str} (h1 : sLt x y = false) (h2 : sLt y x = false) : x = y := by
  have e := lt_tri h1 h2
  obtain ⟨⟨a⟩⟩ := x
  obtain ⟨⟨b⟩⟩ := y
  have e' : a = b := e
  rw [e']
theorem sLt_asym {x y : Str} (h : sLt x y = true) : sLt y x = false := by
  cases e : sLt y x
  · rfl
  · have := sLt_tr h e
    rw [sLt_irr] at this
    cases this
/-- strictly ascending -/
abbrev Asc (l : List Str) : Prop := l.Pairwise fun x y => sLt x y = true
theorem asc_uniq : ∀ {l m : List Str}, Asc l → Asc m → l.Perm m → l = m
  | [], _, _, _, h => (List.Perm.eq_nil h.symm).symm
  | x :: l, [], _, _, h => absurd h.length_eq (by simp)
  | x :: l, y :: m, hl, hm, h => by
    have hl' := List.pairwise_cons.mp hl
    have hm' := List.pairwise_cons.mp hm
    by_cases e : x = y
    · subst e
      rw [asc_uniq hl'.2 hm'.2 h.cons_inv]
    · have h1 : x ∈ m := by
        rcases List.mem_cons.mp (h.mem_iff.mp (List.mem_cons_self (a := x) (l := l))) with z | z
        · exact absurd z e
        · exact z
      have h2 : y ∈ l := by
        rcases List.mem_cons.mp (h.mem_iff.mpr (List.mem_cons_self (a := y) (l := m))) with z | z
        · exact absurd z.symm e
        · exact z
      have a := hl'.1 y h2
      have b := hm'.1 x h1
      rw [sLt_asym a] at b
      cases b
theorem rising_all : ∀ (l : List Str) (p : Str), risingS p l = true → (p :: l).Pairwise fun x y => sLt y x = false
  | [], p, _ => List.pairwise_singleton _ _
  | x :: r, p, h => by
    have h' : (!ltCps x.cps.toList p.cps.toList && risingS x r) = true := h
    simp only [Bool.and_eq_true, Bool.not_eq_true'] at h'
    have ih := rising_all r x h'.2
    have h1 : sLt x p = false := h'.1
    refine List.pairwise_cons.mpr ⟨fun y hy => ?_, ih⟩
    rcases List.mem_cons.mp hy with rfl | hy
    · exact h1
    · have h2 := (List.pairwise_cons.mp ih).1 y hy
      cases e : sLt y p
      · rfl
      · exfalso
        cases e3 : sLt x y
        · have := sLt_tri e3 h2
          rw [this, e] at h1
          cases h1
        · have := sLt_tr e3 e
          rw [h1] at this
          cases this
theorem sortedS_asc {l : List Str} (h : sortedS l = true) (n : l.Nodup) : Asc l := by
  have p : l.Pairwise fun x y => sLt y x = false := by
    cases l with
    | nil => exact List.Pairwise.nil
    | cons x r => exact rising_all r x h
  refine (p.and (List.nodup_iff_pairwise_ne.mp n)).imp fun {x y} q => ?_
  cases e : sLt x y
  · exact absurd (sLt_tri e q.1) q.2
  · rfl
def insP (p : Str × D) : List (Str × D) → List (Str × D)
  | [] => [p]
  | q :: r => if sLt p.1 q.1 = true then p :: q :: r else q :: insP p r
def srtP : List (Str × D) → List (Str × D)
  | [] => []
  | p :: r => insP p (srtP r)
theorem insP_perm (p : Str × D) : ∀ l, (insP p l).Perm (p :: l)
  | [] => List.Perm.refl _
  | q :: r => by
    unfold insP
    split
    · exact List.Perm.refl _
    · exact ((insP_perm p r).cons q).trans (List.Perm.swap p q r)
theorem srtP_perm : ∀ l, (srtP l).Perm l
  | [] => List.Perm.refl _
  | p :: r => (insP_perm p (srtP r)).trans ((srtP_perm r).cons p)
theorem insP_asc {p : Str × D} : ∀ {l : List (Str × D)}, Asc (l.map (·.1)) → p.1 ∉ l.map (·.1) → Asc ((insP p l).map (·.1))
  | [], _, _ => List.pairwise_singleton _ _
  | q :: r, h, n => by
    have h' := List.pairwise_cons.mp h
    unfold insP
    split
    · rename_i e
      refine List.pairwise_cons.mpr ⟨fun y hy => ?_, h⟩
      rcases List.mem_cons.mp hy with rfl | hy
      · exact e
      · exact sLt_tr e (h'.1 y hy)
    · rename_i e
      have ne : p.1 ≠ q.1 := fun z => n (by rw [z]; exact List.mem_cons_self)
      have lt : sLt q.1 p.1 = true := by
        cases z : sLt q.1 p.1
        · exact absurd (sLt_tri (Bool.eq_false_iff.mpr e) z) ne
        · rfl
      refine List.pairwise_cons.mpr ⟨fun y hy => ?_, insP_asc h'.2 fun z => n (List.mem_cons_of_mem _ z)⟩
      obtain ⟨u, hu, rfl⟩ := List.mem_map.mp hy
      rcases List.mem_cons.mp ((insP_perm p r).mem_iff.mp hu) with rfl | hu
      · exact lt
      · exact h'.1 _ (List.mem_map.mpr ⟨u, hu, rfl⟩)
theorem srtP_asc : ∀ {l : List (Str × D)}, (l.map (·.1)).Nodup → Asc ((srtP l).map (·.1))
  | [], _ => List.Pairwise.nil
  | p :: r, h => by
    have h' := List.nodup_cons.mp h
    refine insP_asc (srtP_asc h'.2) fun z => h'.1 ?_
    exact ((srtP_perm r).map (·.1)).mem_iff.mp z
/-- what sorted gives of the names -/
theorem srt_names {l : List (Str × D)} {ys : List Str} (h : (l.map (·.1)).Nodup) (hp : ys.Perm (l.map (·.1))) (hs : sortedS ys = true) : ys = (srtP l).map (·.1) :=
  asc_uniq (sortedS_asc hs (hp.nodup_iff.mpr h)) (srtP_asc h) (hp.trans ((srtP_perm l).map (·.1)).symm)
/-- two lists of pairs with the same items are sorted alike -/
theorem srtP_uniq {l m : List (Str × D)} (h : (l.map (·.1)).Nodup) (p : l.Perm m) : srtP l = srtP m := by
  have hm : (m.map (·.1)).Nodup := (p.map (·.1)).nodup_iff.mp h
  have e : (srtP l).map (·.1) = (srtP m).map (·.1) := asc_uniq (srtP_asc h) (srtP_asc hm) ((((srtP_perm l).trans p).trans (srtP_perm m).symm).map (·.1))
  have q : (srtP l).Perm (srtP m) := ((srtP_perm l).trans p).trans (srtP_perm m).symm
  have key : ∀ (a b : List (Str × D)), a.map (·.1) = b.map (·.1) → (a.map (·.1)).Nodup → a.Perm b → a = b := by
    intro a
    induction a with
    | nil => intro b _ _ hp; exact (List.Perm.eq_nil hp.symm).symm
    | cons x a ih =>
      intro b e n hp
      cases b with
      | nil => exact absurd hp.length_eq (by simp)
      | cons y b =>
        have e1 : x.1 = y.1 := (List.cons.inj e).1
        have n' := List.nodup_cons.mp n
        have e2 : x = y := by
          rcases List.mem_cons.mp (hp.mem_iff.mpr (List.mem_cons_self (a := y) (l := b))) with z | z
          · exact z.symm
          · exact absurd (List.mem_map.mpr ⟨y, z, e1.symm⟩) n'.1
        subst e2
        rw [ih b (List.cons.inj e).2 n'.2 hp.cons_inv]
  exact key _ _ e (((srtP_perm l).map (·.1)).nodup_iff.mpr h) q
/-! ### an open term with all definitions ascending -/
def srt3 (f : D → D) (s : Str) (b c : D) : D :=
  if s = "word" then .tup [.str s, b, .tup (c.items.map f)] else if s = "fun" then .tup [.str s, b, f c] else .tup [.str s, .tup (mkPs (srtP (b.items.map fun d => (d.fst, f d.snd)))), f c]
def srtD : Nat → D → D
  | 0, d => d
  | n + 1, d => match d with
    | .tup [.str s, b, c] => srt3 (srtD n) s b c
    | d => d
theorem srt_U (n : Nat) (x : Str) : srtD (n + 1) (mkU x) = mkU x := rfl
theorem srt_W (n : Nat) (x : Str) (l : List D) : srtD (n + 1) (mkW x l) = mkW x (l.map (srtD n)) := by
  show srt3 (srtD n) "word" (.str x) (.tup l) = _
  unfold srt3
  rw [if_pos rfl]
  rfl
theorem srt_F (n : Nat) (x : Str) (b : D) : srtD (n + 1) (mkF x b) = mkF x (srtD n b) := by
  show srt3 (srtD n) "fun" (.str x) b = _
  unfold srt3
  rw [if_neg ne_wf, if_pos rfl]
  rfl
theorem srt_L (n : Nat) (ps : List (Str × D)) (b : D) : srtD (n + 1) (mkL ps b) = mkL (srtP (ps.map fun p => (p.1, srtD n p.2))) (srtD n b) := by
  show srt3 (srtD n) "let" (.tup (mkPs ps)) b = _
  unfold srt3
  rw [if_neg ne_wl, if_neg ne_fl]
  show D.tup [.str "let", .tup (mkPs (srtP ((mkPs ps).map fun d => (d.fst, srtD n d.snd)))), srtD n b] = _
  have e : (mkPs ps).map (fun d => (d.fst, srtD n d.snd)) = ps.map fun p => (p.1, srtD n p.2) := by
    unfold mkPs
    rw [List.map_map]
    rfl
  rw [e]
  rfl
theorem defOk_perm {l m : List (Str × D)} (p : l.Perm m) (h : DefOk m) : DefOk l :=
  ⟨by rw [p.length_eq]; exact h.1, by rw [p.length_eq]; exact h.2.1, fun x hx => h.2.2.1 x (p.mem_iff.mp hx), (p.map (·.1)).nodup_iff.mpr h.2.2.2⟩
theorem defOk_map {l : List (Str × D)} (f : D → D) (h : DefOk l) : DefOk (l.map fun p => (p.1, f p.2)) := by
  refine ⟨by rw [List.length_map]; exact h.1, by rw [List.length_map]; exact h.2.1, fun x hx => ?_, ?_⟩
  · obtain ⟨y, hy, rfl⟩ := List.mem_map.mp hx
    exact h.2.2.1 y hy
  · rw [List.map_map]
    exact h.2.2.2
theorem cnt_U (n : Nat) (x : Str) : cnt (n + 1) (mkU x) = 1 := rfl
theorem cnt_s (n : Nat) (d : D) : cnt (n + 1) d = 1 + ((inn d).map (cnt n)).sum := rfl
theorem OpN.s {n : Nat} {d : D} : OpN (n + 1) d ↔ (built d = true ∧ (inn d).length ≤ 4) ∧ ∀ e ∈ inn d, OpN n e := Iff.rfl
theorem srt_ok : ∀ (n : Nat) (d : D), OpN n d → OpN n (srtD n d) ∧ cnt n (srtD n d) = cnt n d
  | 0, _, h => h.elim
  | n + 1, d, h => by
    have map_sum : ∀ l : List D, (∀ e ∈ l, OpN n e) → ((l.map (srtD n)).map (cnt n)).sum = (l.map (cnt n)).sum := by
      intro l
      induction l with
      | nil => exact fun _ => rfl
      | cons x l ih =>
        intro hl
        rw [List.map_cons, List.map_cons, List.sum_cons, List.map_cons, List.sum_cons, (srt_ok n x (hl x List.mem_cons_self)).2, ih fun y hy => hl y (List.mem_cons_of_mem _ hy)]
    obtain ⟨⟨hb, hw⟩, hi⟩ := OpN.s.mp h
    rcases built_cases hb with ⟨x, rfl, hx⟩ | ⟨x, l, rfl, hx, hl⟩ | ⟨x, b, rfl, hx⟩ | ⟨ps, b, rfl, hp⟩
    · exact ⟨h, rfl⟩
    · rw [srt_W]
      rw [inn_W] at hi hw
      refine ⟨OpN.s.mpr ⟨⟨?_, by rw [inn_W, List.length_map]; exact hw⟩, fun e he => ?_⟩, ?_⟩
      · rw [built_W, hx, List.length_map, decide_eq_true hl]
        rfl
      · rw [inn_W] at he
        obtain ⟨y, hy, rfl⟩ := List.mem_map.mp he
        exact (srt_ok n y (hi y hy)).1
      · rw [cnt_s, cnt_s, inn_W, inn_W, map_sum l hi]
    · rw [srt_F]
      rw [inn_F] at hi
      have h1 := srt_ok n b (hi b (List.mem_singleton.mpr rfl))
      refine ⟨OpN.s.mpr ⟨⟨?_, by rw [inn_F]; simp⟩, fun e he => ?_⟩, ?_⟩
      · rw [built_F]
        exact hx
      · rw [inn_F] at he
        rw [List.mem_singleton.mp he]
        exact h1.1
      · rw [cnt_s, cnt_s, inn_F, inn_F, List.map_singleton, List.map_singleton, h1.2]
    · rw [srt_L]
      rw [inn_L] at hi hw
      have hq := srtP_perm (ps.map fun p => (p.1, srtD n p.2))
      have hb' := srt_ok n b (hi b (List.mem_append_right _ (List.mem_singleton.mpr rfl)))
      have e2 : ((ps.map fun p => (p.1, srtD n p.2)).map fun p => p.2) = (ps.map (·.2)).map (srtD n) := by
        rw [List.map_map, List.map_map]
        rfl
      have hps : ∀ e ∈ ps.map (·.2), OpN n e := fun e he => hi e (List.mem_append_left _ he)
      refine ⟨OpN.s.mpr ⟨⟨built_L.mpr (defOk_perm hq (defOk_map _ hp)), ?_⟩, fun e he => ?_⟩, ?_⟩
      · rw [inn_L, List.length_append, List.length_map, hq.length_eq, List.length_map]
        rw [List.length_append, List.length_map] at hw
        exact hw
      · rw [inn_L] at he
        rcases List.mem_append.mp he with he | he
        · have he2 := (hq.map (·.2)).mem_iff.mp he
          rw [e2] at he2
          obtain ⟨y, hy, rfl⟩ := List.mem_map.mp he2
          exact (srt_ok n y (hps y hy)).1
        · rw [List.mem_singleton.mp he]
          exact hb'.1
      · rw [cnt_s, cnt_s, inn_L, inn_L, List.map_append, List.map_append, List.sum_append, List.sum_append, List.map_singleton, List.map_singleton, hb'.2]
        have e3 : (((srtP (ps.map fun p => (p.1, srtD n p.2))).map (·.2)).map (cnt n)).sum = ((ps.map (·.2)).map (cnt n)).sum := by
          rw [((hq.map (·.2)).map (cnt n)).sum_nat, e2]
          exact map_sum _ hps
        rw [e3]
def wide : Nat → Nat
  | 0 => 0
  | n + 1 => 1 + 4 * wide n
theorem cnt_le : ∀ (n : Nat) (d : D), OpN n d → cnt n d ≤ wide n
  | 0, _, h => h.elim
  | n + 1, d, h => by
    obtain ⟨⟨_, hw⟩, hi⟩ := OpN.s.mp h
    have key : ∀ l : List D, (∀ e ∈ l, OpN n e) → (l.map (cnt n)).sum ≤ l.length * wide n := by
      intro l
      induction l with
      | nil => exact fun _ => Nat.zero_le _
      | cons x l ih =>
        intro hl
        have h1 := cnt_le n x (hl x List.mem_cons_self)
        have h2 := ih fun y hy => hl y (List.mem_cons_of_mem _ hy)
        rw [List.map_cons, List.sum_cons, List.length_cons, Nat.succ_mul]
        omega
    have h1 := key _ hi
    have h2 : (inn d).length * wide n ≤ 4 * wide n := Nat.mul_le_mul_right _ hw
    rw [cnt_s]
    show _ ≤ 1 + 4 * wide n
    omega
theorem wide_le {n m : Nat} (h : n ≤ m) : wide n ≤ wide m := by
  induction h with
  | refl => exact Nat.le_refl _
  | step _ ih =>
    refine Nat.le_trans ih ?_
    show _ ≤ 1 + 4 * _
    omega
end Sl

set_option Elab.async false
set_option linter.all false
set_option maxRecDepth 100000
set_option maxHeartbeats 400000
namespace Sl
open PySem PySem.Spec PyProof.Rows L2
open PySem PySem.Spec PyProof.Rows L2
def topT (i : Nat) : Stmt := PySem.Challenge.pw_sharedlets_k08_graphs_made.main.body.getD i (.Pass ⟨0, 0, 0, 0⟩)
abbrev sName : Stmt := topT 14
theorem scName : FnScope ["value"] ["value"] (defScope sName) := ⟨rfl, rfl, rfl, by decide +kernel, rfl, by decide +kernel, by decide +kernel⟩
/-- built-ins that the module leaves alone -/
structure Bt (mg : Str → Option Value) : Prop where
  isi : mg "isinstance" = none
  str : mg "str" = none
  tuple : mg "tuple" = none
  dict : mg "dict" = none
  len : mg "len" = none
  all : mg "all" = none
  set : mg "set" = none
  range : mg "range" = none
  sorted : mg "sorted" = none
  list : mg "list" = none
  int : mg "int" = none
  abs : mg "abs" = none
  max : mg "max" = none
  min : mg "min" = none
  repr : mg "repr" = none
  zip : mg "zip" = none
  enum : mg "enumerate" = none
def signs : List V := [.str "fun", .str "let", .str "in"]
theorem isA_str (d : D) : isA "str" d = match d with | .str _ => true | _ => false := by
  cases d
  · exact (by decide +kernel : isT "NoneType" "str" = false)
  · exact (by decide +kernel : isT "bool" "str" = false)
  · exact (by decide +kernel : isT "int" "str" = false)
  · exact (by decide +kernel : isT "str" "str" = true)
  · exact (by decide +kernel : isT "tuple" "str" = false)
  · exact (by decide +kernel : isT "list" "str" = false)
  · exact (by decide +kernel : isT "dict" "str" = false)
theorem bfalse {b : Bool} (h : ¬ b = true) : b = false := by
  cases b
  · rfl
  · exact absurd rfl h
theorem inV_signs (x : Str) : inV (.str x) signs = (x == "fun" || x == "let" || x == "in") := by
  have e : ∀ y : Str, eqV (.str y) (.str x) = (x == y) := fun y => by
    show (y == x) = (x == y)
    by_cases h : x = y
    · rw [h]
    · rw [beq_eq_false_iff_ne.mpr h, beq_eq_false_iff_ne.mpr fun z => h z.symm]
  unfold inV signs
  simp only [List.any_cons, List.any_nil, e, Bool.or_false, Bool.or_assoc]
section
variable {P : Program} {w : World} {K : PySem.W.Frag} {mg : Str → Option Value} {base : Heap}
/-- what the module's top holds -/
structure Tops (K : PySem.W.Frag) (mg : Str → Option Value) : Prop where
  letters : ∃ t, mg "MAX_LETTERS" = some (.int 8 t)
  terms : ∃ t, mg "MAX_TERMS" = some (.int 3 t)
  nodes : ∃ t, mg "MAX_NODES" = some (.int 100 t)
  sw : ∃ a, mg "SIGN_WORDS" = some (.ref a) ∧ ∀ H : Hp, SqT K H a signs
def spName (K : PySem.W.Frag) : Sp := fun vs H Q _ => ∃ v d, vs = [v] ∧ Rdd K H v d ∧ d.small = true ∧ Q (.bl d.isName) H
theorem ok_name {f : Addr} {fd : FuncData} (F : Fun K "is_name" "is_name" sName f fd) (T : Tops K mg) (B : Bt mg) : FnOk P w K mg base CX0 1 f fd ["value"] (spName K) := by
  refine F.ok scName (fun vs H Q E h => ?_) (fun cdv A outer s H vs Q E hr h => ?_)
  · obtain ⟨v, d, rfl, _⟩ := h
    rfl
  · obtain ⟨v, d, rfl, hv, hz, q⟩ := h
    obtain ⟨t8, g8⟩ := T.letters
    obtain ⟨aS, gS, hS⟩ := T.sw
    refine ⟨_, (pss_cons (ps_if (PW.pt (pw_or (pt_not (pt_val (pe_callB call_isi (by rfl) B.isi (by decide +kernel) (pa_cons (pv 0) (pa_cons (pe_bltn (v := .ty "str") (by rfl) B.str (by decide +kernel) rfl) pa_nil)))))
          (pw_or1 (pt_not (pt_chain op_le op_le pe_int (pe_callB call_len_str (by rfl) B.len PySem.boot_len (pa_cons (pv 0) pa_nil)) (pe_glob (v := .int 8) (by rfl) g8 ⟨_, rfl⟩))))))
        (pss_one (ps_ret pe_bl)) pss_nil)
      (pss_one (ps_ret (pe_and (pe_m0 PySem.F.slot_str_isascii PySem.F.type_str_isascii mt_isascii (pv 0)) (pe_and (pe_m0 PySem.F.slot_str_isalpha PySem.F.type_str_isalpha mt_isalpha (pv 0)) (pe_and (pe_m0 PySem.F.slot_str_islower PySem.F.type_str_islower mt_islower (pv 0))
        (pe_one (pe_cmpR op_notIn_seq (pv 0) (pe_glob (v := .ref aS) (by rfl) gS rfl) (by rfl))))))))), ?_⟩
    refine ⟨v, rfl, v, .ty "str", _, _, isA "str" d, rfl, .ty _, hv.ty, kit_isA (by decide +kernel), isA "str" d, rfl, ?_⟩
    rw [isA_str]
    cases hv with
    | str x =>
      have hz' : x.length ≤ 1000 := of_decide_eq_true hz
      have sl := sizeLine_eq
      refine iteF ⟨.str x, rfl, x, rfl, by omega, _, _, rfl, rfl, _, rfl, ?_⟩
      have eN : (D.str x).isName = (decide (1 ≤ x.length ∧ x.length ≤ 8) && nmTail x) := rfl
      rw [eN] at q
      refine ite2 (fun e1 => ⟨_, _, rfl, rfl, _, rfl, ite2 (fun e2 => ?_) (fun e2 => ?_)⟩) (fun e1 => ?_)
      · have h2 : ¬ x.length ≤ 8 := fun z => by
          rw [decide_eq_true (show (x.length : Int) ≤ 8 by omega)] at e2
          cases e2
        rw [decide_eq_false (fun z => h2 z.2), Bool.false_and] at q
        exact q
      · have h1 : 1 ≤ x.length := by
          have := of_decide_eq_true e1
          omega
        have h2 : x.length ≤ 8 := by
          by_cases h : x.length ≤ 8
          · exact h
          · rw [decide_eq_false (show ¬ (x.length : Int) ≤ 8 by omega)] at e2
            exact absurd rfl e2
        rw [decide_eq_true ⟨h1, h2⟩, Bool.true_and] at q
        unfold nmTail at q
        refine ⟨.str x, rfl, ⟨x, rfl⟩, x, rfl, rfl, trivial, _, rfl, ite2 (fun a1 => ?_) (fun a1 => ?_)⟩
        · rw [a1, Bool.true_and] at q
          refine ⟨.str x, rfl, ⟨x, rfl⟩, x, rfl, rfl, trivial, _, rfl, ite2 (fun a2 => ?_) (fun a2 => ?_)⟩
          · rw [a2, Bool.true_and] at q
            refine ⟨.str x, rfl, ⟨x, rfl⟩, x, rfl, rfl, trivial, _, rfl, ite2 (fun a3 => ?_) (fun a3 => ?_)⟩
            · rw [a3, Bool.true_and] at q
              refine ⟨.str x, rfl, aS, signs, rfl, .inr (hS H), rfl, rfl, ?_⟩
              rw [if_pos rfl, inV_signs]
              exact q
            · rw [bfalse a3, Bool.false_and] at q
              exact q
          · rw [bfalse a2, Bool.false_and] at q
            exact q
        · rw [bfalse a1, Bool.false_and] at q
          exact q
      · have h1 : ¬ 1 ≤ x.length := fun z => e1 (decide_eq_true (show (1 : Int) ≤ x.length by omega))
        rw [decide_eq_false (fun z => h1 z.1), Bool.false_and] at q
        exact ⟨_, rfl, iteT q⟩
    | _ => exact iteT q
end
theorem RddAll.at {K : PySem.W.Frag} {H : Hp} {vs : List V} {ds : List D} {i : Nat} {d : D} (h : RddAll K H vs ds) (hd : ds[i]? = some d) : ∃ v, vs[i]? = some v ∧ Rdd K H v d := by
  have hi : i < ds.length := (List.getElem?_eq_some_iff.mp hd).1
  have hl := h.length
  have e : vs[i]? = some (vs[i]'(by omega)) := List.getElem?_eq_getElem (by omega)
  obtain ⟨d2, h2, r⟩ := h.get e
  rw [hd] at h2
  cases h2
  exact ⟨_, e, r⟩
theorem two_of {α : Type} {xs : List α} (h : xs.length = 2) : ∃ x y, xs = [x, y] := by
  match xs, h with
  | [x, y], _ => exact ⟨x, y, rfl⟩
theorem three_of {α : Type} {xs : List α} (h : xs.length = 3) : ∃ x y z, xs = [x, y, z] := by
  match xs, h with
  | [x, y, z], _ => exact ⟨x, y, z, rfl⟩
theorem RddAll.two {K : PySem.W.Frag} {H : Hp} {x y : V} {ds : List D} (h : RddAll K H [x, y] ds) : ∃ p t, ds = [p, t] ∧ Rdd K H x p ∧ Rdd K H y t := by
  cases h with
  | cons h1 h2 =>
    cases h2 with
    | cons h3 h4 =>
      cases h4
      exact ⟨_, _, rfl, h1, h3⟩
theorem RddAll.pair {K : PySem.W.Frag} {H : Hp} {xs : List V} {p t : D} (h : RddAll K H xs [p, t]) : ∃ x y, xs = [x, y] ∧ Rdd K H x p ∧ Rdd K H y t := by
  cases h with
  | cons h1 h2 =>
    cases h2 with
    | cons h3 h4 =>
      cases h4
      exact ⟨_, _, rfl, h1, h3⟩
theorem RddAll.trip {K : PySem.W.Frag} {H : Hp} {xs : List V} {p t u : D} (h : RddAll K H xs [p, t, u]) : ∃ x y z, xs = [x, y, z] ∧ Rdd K H x p ∧ Rdd K H y t ∧ Rdd K H z u := by
  cases h with
  | cons h1 h2 =>
    cases h2 with
    | cons h3 h4 =>
      cases h4 with
      | cons h5 h6 =>
        cases h6
        exact ⟨_, _, _, rfl, h1, h3, h5⟩
theorem Rdd.tupd' {K : PySem.W.Frag} {H : Hp} {v : V} {ds : List D} (h : Rdd K H v (.tup ds)) : ∃ a xs, v = .ref a ∧ SqT K H a xs ∧ RddAll K H xs ds ∧ ds.length ≤ 100000 := by
  cases h with
  | tup hs ha hz => exact ⟨_, _, rfl, hs, ha, hz⟩
theorem Rdd.strd {K : PySem.W.Frag} {H : Hp} {v : V} {x : Str} (h : Rdd K H v (.str x)) : v = .str x := by
  cases h
  rfl
theorem pair_of {d : D} (h : d.pair = true) : ∃ x b, d = .tup [.str x, b] ∧ nmOk x = true := by
  unfold D.pair at h
  split at h
  · rename_i a b
    unfold D.isName at h
    split at h
    · rename_i x
      exact ⟨x, b, rfl, h⟩
    · cases h
  · cases h
theorem fm_fst : ∀ l : List D, (l.map fun d => some (V.str d.fst)).filterMap id = (l.map D.fst).map V.str
  | [] => rfl
  | d :: ds => by
    rw [List.map_cons, List.map_cons, List.map_cons, ← fm_fst ds]
    rfl
theorem str_dec (x y : Str) : decide (V.str x = V.str y) = decide (x = y) := decide_eq_decide.mpr ⟨fun h => V.str.inj h, fun h => by rw [h]⟩
theorem int_dec (x y : Int) : decide (V.int x = V.int y) = decide (x = y) := decide_eq_decide.mpr ⟨fun h => V.int.inj h, fun h => by rw [h]⟩
theorem in23 (n : Nat) : inV (.int n) [V.int 2, .int 3] = decide (n = 2 ∨ n = 3) := by
  have e : ∀ m : Int, eqV (.int m) (.int n) = decide ((n : Int) = m) := fun m => by
    show (m == (n : Int)) = _
    by_cases h : (n : Int) = m
    · rw [decide_eq_true h, h]
      exact beq_self_eq_true m
    · rw [decide_eq_false h]
      exact beq_eq_false_iff_ne.mpr fun z => h z.symm
  unfold inV
  simp only [List.any_cons, List.any_nil, e, Bool.or_false]
  by_cases h2 : n = 2
  · rw [decide_eq_true (show (n : Int) = 2 by omega), decide_eq_true (Or.inl h2), Bool.true_or]
  · rw [decide_eq_false (show ¬ (n : Int) = 2 by omega), Bool.false_or]
    exact decide_eq_decide.mpr ⟨fun z => .inr (by omega), fun z => by omega⟩
theorem built_not {l : List D} (h : ¬ (l.length = 2 ∨ l.length = 3)) : built (.tup l) = false := by
  unfold built
  split
  · rename_i e
    cases e
    exact absurd (Or.inl rfl) h
  · rename_i e
    cases e
    exact absurd (Or.inr rfl) h
  · rfl
theorem fm_snd : ∀ l : List V, (l.map some).filterMap id = l
  | [] => rfl
  | d :: ds => by
    rw [List.map_cons]
    show d :: (ds.map some).filterMap id = _
    rw [fm_snd ds]
theorem nwn : ¬ (("word" : Str)) = "name" := by decide +kernel
theorem nfn : ¬ (("fun" : Str)) = "name" := by decide +kernel
theorem nln : ¬ (("let" : Str)) = "name" := by decide +kernel
theorem nwc : ¬ (("word" : Str)) = "call" := by decide +kernel
theorem nfc : ¬ (("fun" : Str)) = "call" := by decide +kernel
theorem nlc : ¬ (("let" : Str)) = "call" := by decide +kernel
theorem RddAll.app {K : PySem.W.Frag} {H : Hp} : ∀ {xs ys : List V} {ds es : List D}, RddAll K H xs ds → RddAll K H ys es → RddAll K H (xs ++ ys) (ds ++ es)
  | _, _, _, _, .nil, h => h
  | _, _, _, _, .cons a b, h => .cons a (b.app h)
/-- the values of the definitions' terms -/
theorem RddAll.snds {K : PySem.W.Frag} {H : Hp} : ∀ {ps : List (Str × D)} {xs : List V}, RddAll K H xs (mkPs ps) → ∃ us : List V, RddAll K H us (ps.map (·.2)) ∧ us.length = xs.length ∧
    ∀ (i : Nat) (x : V), xs[i]? = some x → ∃ (a : Addr) (y : Str) (u : V), x = V.ref a ∧ SqT K H a [V.str y, u] ∧ us[i]? = some u ∧ (ps.map (·.1))[i]? = some y
  | [], _, h => by
    cases h
    exact ⟨[], .nil, rfl, fun i x e => by simp at e⟩
  | p :: ps, _, h => by
    cases h with
    | @cons v vs d ds h1 h2 =>
      obtain ⟨us, r, l, at'⟩ := RddAll.snds (ps := ps) h2
      obtain ⟨a, ys, rfl, hs, hy, _⟩ := h1.tupd'
      obtain ⟨x, u, rfl, rx, ru⟩ := hy.pair
      cases rx
      refine ⟨u :: us, .cons ru r, by rw [List.length_cons, List.length_cons, l], fun i x e => ?_⟩
      cases i with
      | zero =>
        have e' := Option.some.inj e
        subst e'
        exact ⟨a, p.1, u, rfl, hs, rfl, rfl⟩
      | succ i => exact at' i x e
def spInn (K : PySem.W.Frag) : Sp := fun vs H Q _ => ∃ v d, vs = [v] ∧ Rdd K H v d ∧ built d = true ∧ ∀ r H', Same H H' → Rdd K H' r (.tup (inn d)) → Q r H'
theorem fm_built : ∀ l : List D, (l.map fun d => some (V.bl (built d))).filterMap id = (l.map built).map V.bl
  | [] => rfl
  | d :: ds => by
    rw [List.map_cons, List.map_cons, List.map_cons, ← fm_built ds]
    rfl
/-- as lcT, over a list -/
theorem lcL {K : PySem.W.Frag} {a : Addr} {xs : List V} {g : TG} {tt : TT} {te : TE} {vs : List Nat} {σ : L2.St} {H1 : Hp} {D : Addr} {Qd : Hp → Prop} (ys : List (Option V)) (hlen : ys.length = xs.length) (hz : xs.length ≤ 100000) (hT : SqL K H1 a xs) (hD : H1 D = none)
    (hs : ∀ (i : Nat) (x : V) (H : Hp) (Q : VK) (Z : Hp → Prop), xs[i]? = some x → Same H1 H → (∀ y H', ys[i]? = some (some y) → Same H H' → Q y H') → (∀ H', ys[i]? = some none → Same H H' → Z H') →
      g x (wipe σ vs) H fun σ2 H2 => wipe σ2 vs = wipe σ vs ∧ tt σ2 H2 fun b H3 => if b = true then te σ2 H3 Q else Z H3)
    (hd : ∀ H, Same H1 H → H D = some (.lst (ys.filterMap id)) → Qd H) :
    ∃ W : Nat → Nat → Hp → Prop, (∃ m, W 0 m (upd H1 D (.lst []))) ∧ ∀ i m H, W i m H →
      ((Itl K a).stop i H ∧ Qd H) ∨ ((Itl K a).go i H ∧ ∃ Nx : Hp → Prop, (∀ H', Nx H' → ∃ m', m' < m ∧ W (i + 1) m' H') ∧ ∀ x H', (Itl K a).yld i H x H' → g x (wipe σ vs) H' fun σ2 H2 => wipe σ2 vs = wipe σ vs ∧ tt σ2 H2 fun b H3 =>
        if b = true then te σ2 H3 fun y H4 => ∃ acc, H4 D = some (.lst acc) ∧ acc.length < sizeLine ∧ Nx (upd H4 D (.lst (acc ++ [y]))) else Nx H3) := by
  have short : ∀ i, ((ys.take i).filterMap id).length < sizeLine := fun i => by
    have h1 := List.length_filterMap_le id (ys.take i)
    have h2 : (ys.take i).length ≤ ys.length := by rw [List.length_take]; omega
    have h3 := sizeLine_eq
    omega
  refine lc_list (fun i H => Off D H1 H ∧ H D = some (.lst ((ys.take i).filterMap id))) ⟨.put, upd_same⟩ (fun i H _ ⟨h, _⟩ => Same.seq (same_off h hD) hT) (fun i x H hx ⟨ho, hl⟩ => ?_) (fun H ⟨ho, hl⟩ => ?_)
  · refine hs i x H _ _ hx (same_off ho hD) (fun y H' hy sm => ⟨_, sm _ _ hl, short i, (ho.trans (.same sm)).trans .put, ?_⟩) (fun H' hy sm => ⟨ho.trans (.same sm), ?_⟩)
    · rw [upd_same, List.take_add_one, hy, List.filterMap_append]
      rfl
    · rw [sm _ _ hl, List.take_add_one, hy, List.filterMap_append]
      simp
  · refine hd H (same_off ho hD) ?_
    rw [hl, ← hlen, List.take_length]
/-- an open term of the program's own limits -/
def Okd (d : D) : Prop := ∃ n, n ≤ 120 ∧ OpN n d ∧ cnt n d ≤ 500
theorem Okd.open {d : D} (h : Okd d) : isOpen d = true := by
  obtain ⟨n, h1, h2, h3⟩ := h
  exact isOpen_of h2 h1 h3
theorem Okd.hd {d : D} (h : Okd d) : ∀ k, HdN k d := by
  obtain ⟨n, h1, h2, h3⟩ := h
  exact h2.hd
theorem tup_val {K : PySem.W.Frag} {H : Hp} {p : Addr} {xs : List V} {ds : List D} (hp : H p = some (.tup xs)) (h : RddAll K H xs ds) (hz : ds.length ≤ 100000) : Rdd K H (.ref p) (.tup ds) := .tup (SqT.of hp) h hz
end Sl

set_option Elab.async false
set_option linter.all false
set_option maxRecDepth 100000
set_option maxHeartbeats 400000
/-! ## Graphs as data -/
namespace Sl
open PySem PySem.Spec PyProof.Rows L2
inductive GN where
  | W (x : Str) (cs : List Nat)
  | F (c : Nat)
  | V (f : Nat)
def iD (l : List Nat) : List D := l.map fun i => D.int (i : Nat)
def ndD : GN → D
  | .W x cs => .tup [.str "word", .str x, .tup (iD cs)]
  | .F c => .tup [.str "fun", .int (c : Nat)]
  | .V f => .tup [.str "var", .int (f : Nat)]
def gk : GN → List Nat
  | .W _ cs => cs
  | .F c => [c]
  | .V _ => []
def GN.isV : GN → Bool
  | .V _ => true
  | _ => false
def GN.isF : GN → Bool
  | .F _ => true
  | _ => false
/-- the children of the i-th node -/
def kd (ns : List GN) (i : Nat) : List Nat := match ns[i]? with
  | some g => gk g
  | none => []
/-- a node within n nodes -/
def NdOk (ns : List GN) : GN → Prop
  | .W x cs => nmOk x = true ∧ cs.length ≤ 3 ∧ ∀ c ∈ cs, c < ns.length
  | .F c => c < ns.length
  | .V f => ∃ c, ns[f]? = some (.F c)
/-- the variables: (function, variable), by number -/
def vrs (ns : List GN) : List (Nat × Nat) := (List.range ns.length).filterMap fun i => match ns[i]? with
  | some (GN.V f) => some (f, i)
  | _ => none
def GN.own : GN → Option Nat
  | .V f => some f
  | _ => none
/-- the functions that have a variable -/
def own (ns : List GN) : List Nat := ns.filterMap GN.own
structure GOk (ns : List GN) : Prop where
  pos : 0 < ns.length
  all : ∀ g ∈ ns, NdOk ns g
  one : (own ns).Nodup
theorem own_inj : ∀ {ns : List GN} {v v' f : Nat}, (own ns).Nodup → ns[v]? = some (.V f) → ns[v']? = some (.V f) → v = v'
  | [], v, _, _, _, h, _ => by simp at h
  | g :: ns, 0, 0, _, _, _, _ => rfl
  | g :: ns, 0, v' + 1, f, nd, h, h' => by
    cases h
    have e : own (GN.V f :: ns) = f :: own ns := rfl
    rw [e] at nd
    refine absurd ?_ (List.nodup_cons.mp nd).1
    exact List.mem_filterMap.mpr ⟨.V f, List.mem_of_getElem? (i := v') (by simpa using h'), rfl⟩
  | g :: ns, v + 1, 0, f, nd, h, h' => by
    cases h'
    have e : own (GN.V f :: ns) = f :: own ns := rfl
    rw [e] at nd
    refine absurd ?_ (List.nodup_cons.mp nd).1
    exact List.mem_filterMap.mpr ⟨.V f, List.mem_of_getElem? (i := v) (by simpa using h), rfl⟩
  | g :: ns, v + 1, v' + 1, f, nd, h, h' => by
    have nd' : (own ns).Nodup := by
      unfold own at nd ⊢
      rw [List.filterMap_cons] at nd
      split at nd
      · exact nd
      · exact (List.nodup_cons.mp nd).2
    exact congrArg (· + 1) (own_inj (ns := ns) (f := f) nd' (by simpa using h) (by simpa using h'))
theorem kd_at {ns : List GN} {i : Nat} {g : GN} (h : ns[i]? = some g) : kd ns i = gk g := by
  unfold kd
  rw [h]
theorem kd_lt {ns : List GN} (ok : ∀ g ∈ ns, NdOk ns g) {i c : Nat} (h : c ∈ kd ns i) : i < ns.length ∧ c < ns.length := by
  unfold kd at h
  split at h
  · rename_i g e
    refine ⟨(List.getElem?_eq_some_iff.mp e).1, ?_⟩
    have := ok g (List.mem_of_getElem? e)
    cases g with
    | W x cs => exact this.2.2 c h
    | F d =>
      rw [List.mem_singleton.mp h]
      exact this
    | V f => cases h
  · cases h
theorem mem_vrs {ns : List GN} {f v : Nat} : (f, v) ∈ vrs ns ↔ ns[v]? = some (.V f) := by
  unfold vrs
  rw [List.mem_filterMap]
  constructor
  · rintro ⟨i, hi, e⟩
    split at e
    · rename_i g h
      cases e
      exact h
    · cases e
  · intro h
    exact ⟨v, List.mem_range.mpr (List.getElem?_eq_some_iff.mp h).1, by rw [h]⟩
/-! ### who needs a function: from i the variable v can be reached without f -/
inductive Nd (ns : List GN) (f v : Nat) : Nat → Prop
  | var : Nd ns f v v
  | up {i c : Nat} : Nd ns f v c → c ∈ kd ns i → i ≠ f → Nd ns f v i
/-! ### first walks -/
inductive FW (k : Nat → List Nat) : List Nat → List Nat → List Nat → Prop
  | nil {m : List Nat} : FW k m [] m
  | old {m st o : List Nat} {s : Nat} : s ∈ m → FW k m st o → FW k m (s :: st) o
  | new {m st o : List Nat} {s : Nat} : s ∉ m → FW k (m ++ [s]) (k s ++ st) o → FW k m (s :: st) o
theorem FW.det {k : Nat → List Nat} {m st o o' : List Nat} (h : FW k m st o) (h' : FW k m st o') : o = o' := by
  induction h generalizing o' with
  | nil => cases h'; rfl
  | old hs _ ih =>
    cases h' with
    | old _ r => exact ih r
    | new ns _ => exact absurd hs ns
  | new hs _ ih =>
    cases h' with
    | old q _ => exact absurd q hs
    | new _ r => exact ih r
theorem FW.map {k k' : Nat → List Nat} {ρ : Nat → Nat} {m st o : List Nat} (h : FW k m st o) (inj : ∀ a b, a ∈ o → b ∈ o → ρ a = ρ b → a = b) (hk : ∀ a ∈ o, k' (ρ a) = (k a).map ρ) : (∀ a ∈ m, a ∈ o) ∧ (∀ a ∈ st, a ∈ o) ∧ FW k' (m.map ρ) (st.map ρ) (o.map ρ) := by
  induction h with
  | nil => exact ⟨fun a h => h, fun a h => (by cases h), .nil⟩
  | @old m st o s hs _ ih =>
    obtain ⟨i1, i2, i3⟩ := ih inj hk
    refine ⟨i1, fun a ha => ?_, .old (List.mem_map.mpr ⟨s, hs, rfl⟩) i3⟩
    rcases List.mem_cons.mp ha with rfl | ha
    · exact i1 _ hs
    · exact i2 a ha
  | @new m st o s hs _ ih =>
    obtain ⟨i1, i2, i3⟩ := ih inj hk
    have so : s ∈ o := i1 s (List.mem_append_right _ (List.mem_singleton.mpr rfl))
    refine ⟨fun a ha => i1 a (List.mem_append_left _ ha), fun a ha => ?_, .new (fun z => ?_) ?_⟩
    · rcases List.mem_cons.mp ha with rfl | ha
      · exact so
      · exact i2 a (List.mem_append_right _ ha)
    · obtain ⟨b, hb, e⟩ := List.mem_map.mp z
      exact hs (inj b s (i1 b (List.mem_append_left _ hb)) so e ▸ hb)
    · rw [hk s so, ← List.map_append]
      rw [List.map_append] at i3
      exact i3
theorem FW.nodup {k : Nat → List Nat} {m st o : List Nat} (h : FW k m st o) (hm : m.Nodup) : o.Nodup := by
  induction h with
  | nil => exact hm
  | old _ _ ih => exact ih hm
  | @new m st o s hs _ ih =>
    refine ih (List.nodup_append.mpr ⟨hm, by simp, fun a ha b hb => ?_⟩)
    rw [List.mem_singleton.mp hb]
    exact fun z => hs (z ▸ ha)
theorem FW.sub {k : Nat → List Nat} {m st o : List Nat} (h : FW k m st o) : (∀ a ∈ m, a ∈ o) ∧ ∀ a ∈ st, a ∈ o := by
  induction h with
  | nil => exact ⟨fun a h => h, fun a h => by cases h⟩
  | old hs _ ih =>
    refine ⟨ih.1, fun a ha => ?_⟩
    rcases List.mem_cons.mp ha with rfl | ha
    · exact ih.1 _ hs
    · exact ih.2 a ha
  | @new m st o s hs _ ih =>
    have so : s ∈ o := ih.1 s (List.mem_append_right _ (List.mem_singleton.mpr rfl))
    refine ⟨fun a ha => ih.1 a (List.mem_append_left _ ha), fun a ha => ?_⟩
    rcases List.mem_cons.mp ha with rfl | ha
    · exact so
    · exact ih.2 a (List.mem_append_right _ ha)
/-- what a walk has met has all its children -/
theorem FW.closed {k : Nat → List Nat} {m st o : List Nat} (h : FW k m st o) (hm : ∀ a ∈ m, ∀ c ∈ k a, c ∈ m ∨ c ∈ st) : ∀ a ∈ o, ∀ c ∈ k a, c ∈ o := by
  induction h with
  | nil =>
    intro a ha c hc
    rcases hm a ha c hc with h | h
    · exact h
    · cases h
  | @old m st o s hs _ ih =>
    refine ih fun a ha c hc => ?_
    rcases hm a ha c hc with h | h
    · exact .inl h
    · rcases List.mem_cons.mp h with rfl | h
      · exact .inl hs
      · exact .inr h
  | @new m st o s hs _ ih =>
    refine ih fun a ha c hc => ?_
    rcases List.mem_append.mp ha with ha | ha
    · rcases hm a ha c hc with h | h
      · exact .inl (List.mem_append_left _ h)
      · rcases List.mem_cons.mp h with rfl | h
        · exact .inl (List.mem_append_right _ (List.mem_singleton.mpr rfl))
        · exact .inr (List.mem_append_right _ h)
    · rw [List.mem_singleton.mp ha] at hc
      exact .inr (List.mem_append_left _ hc)
end Sl

set_option Elab.async false
set_option linter.all false
set_option maxRecDepth 100000
set_option maxHeartbeats 1000000
/-! ## sorted, of tuples of ints of any lengths, the first one empty; of pairs of a string and an int -/
namespace Sl
open PySem PySem.Spec PyProof.Rows L2
section
variable {prog : Program} {w : World} {A : Around} {E : Value → Shared → Prop} {s : Shared}
/-- v is a tuple of these ints -/
def Tin (h : Heap) (v : Value) (ns : List Int) : Prop := ∃ a its, v = .ref a ∧ IsTup h a its ∧ IntsAre its.toList ns
theorem Tin.keep {h h' : Heap} {v : Value} {ns : List Int} {a : Addr} (x : Tin h v ns) (na : ∀ o, h.get? a = some o → o.cls ≠ .type "tuple") (k : ∀ b o, b ≠ a → h.get? b = some o → h'.get? b = some o) : Tin h' v ns := by
  obtain ⟨b, its, e, ⟨o, ho, hc, hd⟩, i⟩ := x
  exact ⟨b, its, e, ⟨o, k _ _ (fun z => na o (by rw [← z]; exact ho) hc) ho, hc, hd⟩, i⟩
theorem lt_tin {v u : Value} {ns ms : List Int} {Q : Bool → Shared → Prop} (hu : A.units < cLine) (hv : Tin s.heap v ns) (hw : Tin s.heap u ms) (q : Q (HT.lexLt ns ms) s) : wpAny (model prog w) A (keyLt' oneType' v u) Q E s := by
  obtain ⟨a, its, rfl, ⟨⟨c1, d1, t1, l1⟩, ga, hc, n, hd⟩, ia⟩ := hv
  obtain ⟨b, its2, rfl, ⟨⟨c2, d2, t2, l2⟩, gb, hc2, n2, hd2⟩, ib⟩ := hw
  simp only at hc hd hc2 hd2
  subst hc hd hc2 hd2
  rw [keyLt'_oneType, oneLt'_eq]
  simp only [if_true]
  refine wpAny_bind (wpAny_cRoomFor hu ?_)
  refine wpAny_bind (wpAny_callSpecialIfBound?_slot (T := "tuple") ⟨_, ga, rfl⟩ PySem.F.slot_tuple_lt (call_meets PySem.F.slot_tuple_lt ⟨_, ga, rfl⟩ PySem.F.entry_tuple_lt (PySem.F.args_tuple_lt_2 _ _) (HT.tuple_lt_ints a b its its2 n n2 d1 d2 l1 l2 ns ms ia ib) ⟨ga, gb, ?_⟩))
  exact wpAny_truthy_bool q
theorem firsts_tin : ∀ (vs : List Value) {Q : List (Option Value) → Shared → Prop}, (∀ v ∈ vs, ∃ ns, Tin s.heap v ns) → (∀ fs : List (Option Value), fs.length = vs.length → (∀ (i : Nat) (v : Value) (ns : List Int), vs[i]? = some v → Tin s.heap v ns → ns = [] → fs[i]? = some none) → Q fs s) → wpAny (model prog w) A (vs.mapM firstOfTuple') Q E s
  | [], Q, _, q => by
    rw [List.mapM_nil]
    exact wpAny_pure (q [] rfl fun i v ns h => by simp at h)
  | v :: vs, Q, h, q => by
    obtain ⟨ns, a, its, rfl, ⟨o, ho, hc, n, hd⟩, ii⟩ := h v List.mem_cons_self
    rw [List.mapM_cons]
    refine wpAny_bind ?_
    rw [PySem.W.kas_first_eq]
    refine wpAny_bind (PySem.W.Looks.here (show PySem.W.Looks (model prog w) s.heap (typeOf (.ref a)) o.cls from (PySem.W.Looks.ld ho).andThen .now) ?_)
    rw [hc, if_neg (by first | decide | simp)]
    refine wpAny_bind (listItems_at ho hd (wpAny_pure ?_))
    refine wpAny_bind (firsts_tin vs (fun u hu => h u (List.mem_cons_of_mem _ hu)) fun fs hl hf => wpAny_pure (q _ (by rw [List.length_cons, List.length_cons, hl]) fun i u ms hi hm e => ?_))
    cases i with
    | zero =>
      have e2 := Option.some.inj hi
      obtain ⟨a2, its2, e3, ⟨o2, ho2, hc2, n2, hd2⟩, ii2⟩ := hm
      rw [← e2] at e3
      cases e3
      rw [ho] at ho2
      cases ho2
      rw [hd] at hd2
      cases hd2
      subst e
      have z : its.toList = [] := by
        cases hh : its.toList with
        | nil => rfl
        | cons y ys =>
          rw [hh] at ii2
          cases ii2
      show some (its[0]?) = some none
      rw [← Array.getElem?_toList, z]
      rfl
    | succ i => exact hf i u ms hi hm e
theorem kind_tin {vs : List Value} {v0 : Value} {Q : SortKind → Shared → Prop} (h : ∀ v ∈ vs, ∃ ns, Tin s.heap v ns) (h0 : vs[0]? = some v0) (hv0 : Tin s.heap v0 []) (q : Q oneType' s) : wpAny (model prog w) A (keyKind' vs.toArray) Q E s := by
  rw [keyKind'_eq, List.mapM_toArray, map_eq_pure_bind]
  refine wpAny_bind (wpAny_bind (firsts_tin vs h fun fs hl hf => wpAny_pure ?_))
  have f0 := hf 0 v0 [] h0 hv0 rfl
  have n1 : ¬ (fs.toArray.all fun x => x.isSome) = true := fun z => by
    rw [List.all_toArray, List.all_eq_true] at z
    have := z none (List.mem_of_getElem? f0)
    cases this
  have e0 : fs.toArray[0]? = some none := by rw [List.getElem?_toArray]; exact f0
  rw [if_neg n1, e0]
  rw [if_neg (by decide)]
  rw [oneTypeOnly'_eq, List.mapM_toArray, map_eq_pure_bind]
  refine wpAny_bind (wpAny_bind (wpAny_bind (PySem.W.kas_mapM (r := Value.type "tuple") _ (fun v hv Q' hq => ?_) (wpAny_pure ?_))))
  · obtain ⟨ns, a, its, rfl, ⟨o, ho, hc, _⟩, _⟩ := h v hv
    exact ((PySem.W.Looks.ld ho).andThen (by rw [hc]; exact PySem.W.Looks.now)).here hq
  · have e1 : (vs.map fun _ => Value.type "tuple").toArray[0]? = some (Value.type "tuple") := by
      rw [List.getElem?_toArray, List.getElem?_map, h0]
      rfl
    have e2 : ((vs.map fun _ => Value.type "tuple").toArray.all fun x => x == Value.type "tuple") = true := by
      rw [List.all_toArray, List.all_map, List.all_eq_true]
      intro _ _
      rfl
    rw [e1]
    simp only [e2, if_true]
    exact wpAny_pure (wpAny_pure q)
end
/-- sorted(l), l a list of tuples of ints whose first is () -/
def rSortedTin (K : PySem.W.Frag) : List V → Hp → VK → Prop := fun vs H Q => ∃ (a : Addr) (xs : List V), vs = [V.ref a] ∧ SqL K H a xs ∧ (∀ x ∈ xs, ∃ (t : Addr) (ns : List Int), x = V.ref t ∧ SqT K H t (ns.map V.int)) ∧ (∃ t, xs[0]? = some (V.ref t) ∧ SqT K H t []) ∧
  ∀ ys p, ys.Perm xs → H p = none → Q (.ref p) (upd H p (.lst ys))
section
variable {X : Cx}
theorem cr_sortedTin (hu : X.A.units + 64 < cLine) : CallR X (.builtin "sorted") (rSortedTin X.K) := by
  intro pins z σ H vs us Q I r h
  obtain ⟨a, xs, rfl, hs, hx, ⟨t0, h0, ht0⟩, q⟩ := h
  obtain ⟨its, rv, hl, hz⟩ := I.list hs
  obtain ⟨u, rfl, ru⟩ := vals1 r
  obtain rfl : u = Value.ref a := ru
  obtain ⟨e1, e2⟩ := refs_back rv fun x m => by
    obtain ⟨t, _, e, _⟩ := hx x m
    exact ⟨t, e⟩
  have hv : ∀ v ∈ its, ∃ ns, Tin z.heap v ns := fun v m => by
    obtain ⟨t, rfl⟩ := e2 v m
    have hm : V.ref t ∈ xs := by rw [e1]; exact List.mem_map.mpr ⟨_, m, rfl⟩
    obtain ⟨t', ns, e, ht⟩ := hx _ hm
    cases e
    obtain ⟨its2, r2, p2, _⟩ := I.tuple ht
    exact ⟨ns, t, _, rfl, p2, intsAre_of r2⟩
  obtain ⟨v0, g0, rv0⟩ := rv.get h0
  cases rv0
  have hv0 : Tin z.heap (.ref t0) [] := by
    obtain ⟨its2, r2, p2, _⟩ := I.tuple ht0
    cases r2
    exact ⟨t0, _, rfl, p2, .nil⟩
  obtain ⟨k, hk⟩ : ∃ k : Value → List Int, ∀ v ∈ its, Tin z.heap v (k v) := by
    have : ∀ v : Value, ∃ ns : List Int, v ∈ its → Tin z.heap v ns := fun v => by
      by_cases m : v ∈ its
      · obtain ⟨ns, h⟩ := hv v m
        exact ⟨ns, fun _ => h⟩
      · exact ⟨[], fun z => absurd z m⟩
    exact ⟨fun v => Classical.choose (this v), fun v m => Classical.choose_spec (this v) m⟩
  refine SrtO.sorted_ord (NtL.swo_lexL k) hl.isList (by rw [← rv.length]; exact hz) (fun h2 h1 b hb kk => ?_) fun out h1 h2 => ?_
  · have nb : ∀ o, h1.get? b = some o → o.cls ≠ .type "tuple" := fun o e => by
      rw [hb] at e
      cases e
      intro c
      exact absurd (Value.type.inj c) (by decide)
    have up : ∀ v ns, Tin z.heap v ns → Tin h1 v ns := fun v ns x => by
      obtain ⟨c, its3, e, ⟨o, ho, hc, hd⟩, i⟩ := x
      exact ⟨c, its3, e, ⟨o, (kk _ _ ho).2, hc, hd⟩, i⟩
    intro h' keep
    have up2 : ∀ v ns, Tin z.heap v ns → Tin h' v ns := fun v ns x => (up v ns x).keep nb keep
    refine ⟨oneType', fun Q' E' hq => kind_tin (fun v m => ⟨_, up2 _ _ (hk v m)⟩) g0 (up2 _ _ hv0) hq, fun p q' hp hq' => ?_⟩
    exact lt_tin (by show X.A.in1.in1.units < cLine; simp; omega) (up2 _ _ (hk _ hp)) (up2 _ _ (hk _ hq')) ⟨rfl, rfl⟩
  · have h3 : ∀ u ∈ out, ∃ a, u = Value.ref a := fun u hu => e2 u (h2.perm.mem_iff.mp hu)
    obtain ⟨ep, he'⟩ := PyProof.Rows.sortedAll_at z.heap its out.toArray
    have hp : (out.map backV).Perm xs := by
      rw [e1]
      exact h2.perm.map backV
    refine ⟨.ref _, upd H (z.heap.objs.size + 1) (.lst (out.map backV)), I.laid (t' := z.toks) (fun _ _ => PyProof.Rows.sortedAll_old) (Nat.le_succ _) ⟨by rw [hp.length_eq]; exact hz, out, ep, vals_back h3, he'⟩, rfl, q _ _ hp (I.hok.fresh (Nat.le_succ _))⟩
end
/-! ### pairs of a string and an int -/
def ltSI (p q : Str × Int) : Bool := if p.1 = q.1 then decide (p.2 < q.2) else sLt p.1 q.1
theorem swo_SI {α : Type} (k : α → Str × Int) : SrtO.Swo fun v u : α => ltSI (k v) (k u) := by
  refine ⟨fun x y h => ?_, fun x y z h1 h2 => ?_⟩
  · unfold ltSI at h ⊢
    by_cases e : (k x).1 = (k y).1
    · rw [if_pos e] at h
      rw [if_pos e.symm]
      have := of_decide_eq_true h
      exact decide_eq_false (by omega)
    · rw [if_neg e] at h
      rw [if_neg (Ne.symm e)]
      exact sLt_asym h
  · unfold ltSI at h1 h2 ⊢
    by_cases e1 : (k y).1 = (k x).1
    · rw [if_pos e1] at h1
      by_cases e2 : (k z).1 = (k y).1
      · rw [if_pos e2] at h2
        rw [if_pos (e2.trans e1)]
        have a := of_decide_eq_false h1
        have b := of_decide_eq_false h2
        exact decide_eq_false (by omega)
      · rw [if_neg e2, e1] at h2
        rw [if_neg (by rw [← e1]; exact e2)]
        exact h2
    · rw [if_neg e1] at h1
      by_cases e2 : (k z).1 = (k y).1
      · rw [if_neg (by rw [e2]; exact e1), e2]
        exact h1
      · rw [if_neg e2] at h2
        have a : sLt (k x).1 (k y).1 = true := by
          cases h : sLt (k x).1 (k y).1
          · exact absurd (sLt_tri h1 h) e1
          · rfl
        have b : sLt (k y).1 (k z).1 = true := by
          cases h : sLt (k y).1 (k z).1
          · exact absurd (sLt_tri h2 h) e2
          · rfl
        have c := sLt_tr a b
        have n : ¬ (k z).1 = (k x).1 := fun e => by
          rw [e, sLt_irr] at c
          cases c
        rw [if_neg n]
        exact sLt_asym c
section
variable {prog : Program} {w : World} {A : Around} {E : Value → Shared → Prop} {s : Shared}
def Tsi (h : Heap) (v : Value) (p : Str × Int) : Prop := ∃ a o t u n, v = .ref a ∧ h.get? a = some o ∧ o.cls = .type "tuple" ∧ o.data = .seq #[.str p.1 t, .int p.2 u] n
theorem si_cmp {vs : List Value} {k : Value → Str × Int} (hp : ∀ v ∈ vs, Tsi s.heap v (k v)) : SrtO.Cmp prog w A s (tuples' true) (fun p => p.1 ∈ vs) (SrtO.lt2 fun v u => ltSI (k v) (k u)) := by
  intro p q hm hm'
  have h1 := hp _ hm
  have h2 := hp _ hm'
  show wpAny (model prog w) A (keyLt' (tuples' true) p.1 q.1) (fun r s' => s' = s ∧ r = ltSI (k p.1) (k q.1)) (fun _ _ => False) s
  generalize k p.1 = x at h1 ⊢
  generalize k q.1 = y at h2 ⊢
  obtain ⟨x1, x2⟩ := x
  obtain ⟨y1, y2⟩ := y
  obtain ⟨a, o, t, u, n, e, ho, hc, hd⟩ := h1
  obtain ⟨b, o', t', u', n', e', ho', hc', hd'⟩ := h2
  rw [e, e']
  refine PySem.W.kat_lt ho hd ho' hd' ?_
  show PySem.W.KatLex prog w A true (decide (2 < 2)) _ [(.str x1 t, .str y1 t'), (.int x2 u, .int y2 u')] 0 s
  refine PySem.W.kat_cons (wpAny_eqBool_str ?_)
  refine PySem.W.kat_go (fun e1 => ?_) (fun e1 => ?_)
  · have ex : x1 = y1 := of_decide_eq_true e1
    refine PySem.W.kat_yes (PySem.W.kat_cons (SeqAt.EqAt.int_int x2 u y2 u' prog w _ _ ?_))
    refine PySem.W.kat_go (fun e2 => ?_) (fun e2 => ?_)
    · have ey : x2 = y2 := by simpa using e2
      refine PySem.W.kat_yes (PySem.W.kat_nil ⟨rfl, ?_⟩)
      unfold ltSI
      rw [if_pos ex, ey]
      exact (decide_eq_false (Int.lt_irrefl _)).symm
    · refine PySem.W.kat_no (PySem.W.kat_one _ _ (PyProof.Rows.lt_int ?_))
      refine (show s = s ∧ decide (x2 < y2) = ltSI (x1, x2) (y1, y2) from ⟨rfl, ?_⟩)
      unfold ltSI
      rw [if_pos ex]
  · have ex : ¬ x1 = y1 := fun z => by
      rw [decide_eq_true z] at e1
      cases e1
    refine PySem.W.kat_no (oneLt_str ⟨rfl, ?_⟩)
    unfold ltSI
    rw [if_neg ex]
    exact lt_meets x1 y1
theorem si_firsts {h : Heap} {k : Value → Str × Int} : ∀ vs : List Value, (∀ v ∈ vs, Tsi h v (k v)) → ∃ fs, PySem.W.KatTups h vs fs ∧ fs.length = vs.length ∧ ∀ f ∈ fs, ∃ x t, f = Value.str x t
  | [], _ => ⟨[], PySem.W.KatTups.nil, rfl, fun f hf => by simp at hf⟩
  | v :: vs, hp => by
    obtain ⟨fs, k1, l1, h1⟩ := si_firsts vs fun u hu => hp u (List.mem_cons_of_mem _ hu)
    obtain ⟨a, o, t, u, n, rfl, ho, hc, hd⟩ := hp v List.mem_cons_self
    refine ⟨_ :: fs, PySem.W.KatTups.cons ho hc hd rfl k1, by rw [List.length_cons, List.length_cons, l1], fun f hf => ?_⟩
    rcases List.mem_cons.mp hf with rfl | hf
    · exact ⟨_, _, rfl⟩
    · exact h1 f hf
theorem si_sortable {a : Addr} {vs : List Value} {k : Value → Str × Int} (h0 : 0 < vs.length) (hp : ∀ v ∈ vs, Tsi s.heap v (k v)) (ha : ∀ o, s.heap.get? a = some o → o.cls ≠ .type "tuple") : SrtO.SortableO prog w A s a vs fun v u => ltSI (k v) (k u) := by
  intro h' keep
  have hp' : ∀ v ∈ vs, Tsi h' v (k v) := fun v hm => by
    obtain ⟨b, o, t, u, n, e, ho, hc, hd⟩ := hp v hm
    exact ⟨b, o, t, u, n, e, keep _ _ (fun z => ha o (by rw [← z]; exact ho) hc) ho, hc, hd⟩
  obtain ⟨fs, h1, h2, h3⟩ := si_firsts vs hp'
  refine ⟨tuples' true, fun Q E hq => ?_, si_cmp hp'⟩
  refine PySem.W.kat_kind (T := .type "str") h1 (by omega) (fun f hm => ?_) (by rfl) ?_
  · obtain ⟨x, t, rfl⟩ := h3 f hm
    exact PySem.W.Looks.now
  · have e : (Value.type "str" != Value.type "tuple") = true := by first | decide +kernel | rfl | decide
    rw [e]
    exact hq
end
/-- sorted(l), l a list of pairs of a string and an int -/
def rSortedSI (K : PySem.W.Frag) : List V → Hp → VK → Prop := fun vs H Q => ∃ (a : Addr) (xs : List V) (k : V → Str × Int), vs = [V.ref a] ∧ SqL K H a xs ∧ (∀ x ∈ xs, ∃ t, x = V.ref t ∧ SqT K H t [.str (k x).1, .int (k x).2]) ∧
  ∀ ys p, ys.Perm xs → ys.Pairwise (fun x y => ltSI (k y) (k x) = false) → H p = none → Q (.ref p) (upd H p (.lst ys))
theorem cr_sortedSI {X : Cx} : CallR X (.builtin "sorted") (rSortedSI X.K) := by
  intro pins z σ H vs us Q I r h
  obtain ⟨a, xs, k, rfl, hs, hx, q⟩ := h
  obtain ⟨its, rv, hl, hz⟩ := I.list hs
  obtain ⟨u, rfl, ru⟩ := vals1 r
  obtain rfl : u = Value.ref a := ru
  obtain ⟨e1, e2⟩ := refs_back rv fun x m => by
    obtain ⟨t, e, _⟩ := hx x m
    exact ⟨t, e⟩
  have hv : ∀ v ∈ its, Tsi z.heap v (k (backV v)) := fun v m => by
    obtain ⟨t, rfl⟩ := e2 v m
    have hm : V.ref t ∈ xs := by rw [e1]; exact List.mem_map.mpr ⟨_, m, rfl⟩
    obtain ⟨t', e, ht⟩ := hx _ hm
    cases e
    obtain ⟨its2, r2, ⟨o, ho, hc, n, hd⟩, _⟩ := I.tuple ht
    obtain ⟨u1, u2, rfl, ri, rj⟩ := vals2 r2
    obtain ⟨t1, rfl⟩ := ri
    obtain ⟨t2, rfl⟩ := rj
    exact ⟨t, o, t1, t2, n, rfl, ho, hc, hd⟩
  refine SrtO.sorted_ord (swo_SI fun u => k (backV u)) hl.isList (by rw [← rv.length]; exact hz) (fun h2 h1 b hb kk => si_sortable (by omega) (fun v m => ?_) fun o e => ?_) fun out h1 h2 => ?_
  · obtain ⟨c, o, t, u, n, e, ho, hc, hd⟩ := hv v m
    exact ⟨c, o, t, u, n, e, (kk _ _ ho).2, hc, hd⟩
  · have e' : some o = _ := e.symm.trans hb
    cases e'
    intro c
    exact absurd (Value.type.inj c) (by decide)
  · have h3 : ∀ u ∈ out, ∃ a, u = Value.ref a := fun u hu => e2 u (h2.perm.mem_iff.mp hu)
    obtain ⟨ep, he'⟩ := PyProof.Rows.sortedAll_at z.heap its out.toArray
    have hp : (out.map backV).Perm xs := by
      rw [e1]
      exact h2.perm.map backV
    have hsr : (out.map backV).Pairwise (fun x y => ltSI (k y) (k x) = false) := List.pairwise_map.mpr h1
    exact ⟨.ref _, upd H (z.heap.objs.size + 1) (.lst (out.map backV)), I.laid (t' := z.toks) (fun _ _ => PyProof.Rows.sortedAll_old) (Nat.le_succ _) ⟨by rw [hp.length_eq]; exact hz, out, ep, vals_back h3, he'⟩, rfl, q _ _ hp hsr (I.hok.fresh (Nat.le_succ _))⟩
end Sl

set_option Elab.async false
set_option linter.all false
set_option maxRecDepth 100000
set_option maxHeartbeats 400000
/-! ## Nodes -/
namespace Sl
open PySem PySem.Spec PyProof.Rows L2
abbrev sWhole : Stmt := topT 7
abbrev sBelow : Stmt := topT 8
abbrev sCheckB : Stmt := topT 9
abbrev sKids : Stmt := topT 16
abbrev sWithK : Stmt := topT 17
abbrev sRow : Stmt := topT 18
abbrev sPairOf : Stmt := topT 19
abbrev sIsNd : Stmt := topT 20
abbrev sAreN : Stmt := topT 21
theorem scWhole : FnScope ["value"] ["value"] (defScope sWhole) := ⟨rfl, rfl, rfl, by decide +kernel, rfl, by decide +kernel, by decide +kernel⟩
theorem scBelow : FnScope ["value", "limit"] ["value", "limit"] (defScope sBelow) := ⟨rfl, rfl, rfl, by decide +kernel, rfl, by decide +kernel, by decide +kernel⟩
theorem scCheckB : FnScope ["value", "limit"] ["value", "limit"] (defScope sCheckB) := ⟨rfl, rfl, rfl, by decide +kernel, rfl, by decide +kernel, by decide +kernel⟩
theorem scKids : FnScope ["node"] ["node"] (defScope sKids) := ⟨rfl, rfl, rfl, by decide +kernel, rfl, by decide +kernel, by decide +kernel⟩
theorem scWithK : FnScope ["node", "children"] ["node", "children"] (defScope sWithK) := ⟨rfl, rfl, rfl, by decide +kernel, rfl, by decide +kernel, by decide +kernel⟩
theorem scRow : FnScope ["value", "many", "child"] ["value", "many"] (defScope sRow) := ⟨rfl, rfl, rfl, by decide +kernel, rfl, by decide +kernel, by decide +kernel⟩
theorem scPairOf : FnScope ["value", "kind"] ["value", "kind"] (defScope sPairOf) := ⟨rfl, rfl, rfl, by decide +kernel, rfl, by decide +kernel, by decide +kernel⟩
theorem scIsNd : FnScope ["value", "nodes"] ["value", "nodes"] (defScope sIsNd) := ⟨rfl, rfl, rfl, by decide +kernel, rfl, by decide +kernel, by decide +kernel⟩
theorem scAreN : FnScope ["values", "owners", "value", "node"] ["values"] (defScope sAreN) := ⟨rfl, rfl, rfl, by decide +kernel, rfl, by decide +kernel, by decide +kernel⟩
/-- built-ins that the module leaves alone -/
structure Bi (mg : Str → Option Value) : Prop where
  isi : mg "isinstance" = none
  int : mg "int" = none
  bool : mg "bool" = none
  tuple : mg "tuple" = none
  len : mg "len" = none
  all : mg "all" = none
def dWhole : D → Bool
  | .int _ => true
  | _ => false
def dBelow (n : Int) : D → Bool
  | .int i => decide (0 ≤ i) && decide (i < n)
  | _ => false
theorem isa_whole (d : D) : (if isA "int" d = true then !isA "bool" d else false) = dWhole d := by
  rw [isA_int, isA_bool]
  cases d <;> rfl
section
variable {P : Program} {w : World} {K : PySem.W.Frag} {mg : Str → Option Value} {base : Heap}
def spWhole (K : PySem.W.Frag) : Sp := fun vs H Q _ => ∃ v d, vs = [v] ∧ Rdd K H v d ∧ Q (.bl (dWhole d)) H
theorem ok_whole {f : Addr} {fd : FuncData} (F : Fun K "is_whole" "is_whole" sWhole f fd) (B : Bi mg) : FnOk P w K mg base CX0 1 f fd ["value"] (spWhole K) := by
  refine F.ok scWhole (fun vs H Q E h => ?_) (fun cdv A outer s H vs Q E hr h => ?_)
  · obtain ⟨v, d, rfl, _⟩ := h
    rfl
  · obtain ⟨v, d, rfl, hv, q⟩ := h
    refine ⟨_, pss_one (ps_ret (pe_and (pe_callB call_isi (by rfl) B.isi (by decide +kernel) (pa_cons (pv 0) (pa_cons (pe_bltn (v := .ty "int") (by rfl) B.int (by decide +kernel) rfl) pa_nil)))
      (pe_one (pe_not (pe_callB call_isi (by rfl) B.isi (by decide +kernel) (pa_cons (pv 0) (pa_cons (pe_bltn (v := .ty "bool") (by rfl) B.bool (by decide +kernel) rfl) pa_nil))))))), ?_⟩
    refine ⟨v, rfl, v, .ty "int", _, _, isA "int" d, rfl, .ty _, hv.ty, kit_isA (by decide +kernel), isA "int" d, rfl, ?_⟩
    have e := isa_whole d
    cases h1 : isA "int" d with
    | true =>
      rw [h1, if_pos rfl] at e
      refine iteT ⟨v, rfl, v, .ty "bool", _, _, isA "bool" d, rfl, .ty _, hv.ty, kit_isA (by decide +kernel), isA "bool" d, rfl, ?_⟩
      rw [e]
      exact q
    | false =>
      rw [h1, if_neg Bool.false_ne_true] at e
      refine iteF ?_
      rw [e]
      exact q
def spBelow (K : PySem.W.Frag) : Sp := fun vs H Q _ => ∃ v d n, vs = [v, .int n] ∧ Rdd K H v d ∧ Q (.bl (dBelow n d)) H
theorem ok_below {f fW : Addr} {fd fdW : FuncData} (F : Fun K "is_below" "is_below" sBelow f fd) (FW : Fun K "is_whole" "is_whole" sWhole fW fdW) (bW : Binds K fdW ["value"] []) (gW : mg "is_whole" = some (.ref fW)) (B : Bi mg) :
    FnOk P w K mg base CX0 2 f fd ["value", "limit"] (spBelow K) := by
  have GW : FnOk P w K mg base CX0 1 fW fdW ["value"] (spWhole K) := ok_whole FW B
  refine F.ok scBelow (fun vs H Q E h => ?_) (fun cdv A outer s H vs Q E hr h => ?_)
  · obtain ⟨v, d, n, rfl, _⟩ := h
    rfl
  · obtain ⟨v, d, n, rfl, hv, q⟩ := h
    refine ⟨_, pss_one (ps_ret (pe_and (pe_call GW hr (by rfl) gW FW.kp bW .nil pass0 (pa_cons (pv 0) pa_nil)) (pe_one (pe_chain op_le op_lt pe_int (pv 0) (pv 1))))), ?_⟩
    refine ⟨v, rfl, v, d, rfl, hv, dWhole d, rfl, ?_⟩
    cases hv with
    | int i =>
      refine iteT ⟨.int i, rfl, _, _, rfl, rfl, _, rfl, ?_⟩
      refine ite2 (fun e => ⟨_, rfl, _, _, rfl, rfl, ?_⟩) (fun e => ?_)
      · have e' : decide (0 ≤ i) = true := e
        have z : dBelow n (.int i) = decide (i < n) := by
          show (decide (0 ≤ i) && decide (i < n)) = decide (i < n)
          rw [e', Bool.true_and]
        rw [z] at q
        exact q
      · have e' : decide (0 ≤ i) = false := by
          cases h : decide (0 ≤ i) with
          | true => exact absurd h e
          | false => rfl
        have z : dBelow n (.int i) = false := by
          show (decide (0 ≤ i) && decide (i < n)) = false
          rw [e', Bool.false_and]
        rw [z] at q
        exact q
    | _ => exact iteF q
/-! ### a program's own names -/
structure Ad (K : PySem.W.Frag) (mg : Str → Option Value) (fW fB fPc fPr fA : Addr) (fdW fdB fdPc fdPr fdA : FuncData) : Prop where
  FW : Fun K "is_whole" "is_whole" sWhole fW fdW
  bW : Binds K fdW ["value"] []
  gW : mg "is_whole" = some (.ref fW)
  FB : Fun K "is_below" "is_below" sBelow fB fdB
  bB : Binds K fdB ["value", "limit"] []
  gB : mg "is_below" = some (.ref fB)
  FPc : Fun K "_is_piece" "_is_piece" sPiece fPc fdPc
  bPc : Binds K fdPc ["value"] []
  gPc : mg "_is_piece" = some (.ref fPc)
  pl : ∃ fP fdP, Fun K "is_plain_address" "is_plain_address" sPlainA fP fdP ∧ Binds K fdP ["value"] [] ∧ mg "is_plain_address" = some (.ref fP)
  FPr : Fun K "_is_pair" "_is_pair" sPair fPr fdPr
  bPr : Binds K fdPr ["value"] []
  gPr : mg "_is_pair" = some (.ref fPr)
  FA : Fun K "is_address" "is_address" sIsAddr fA fdA
  bA : Binds K fdA ["value"] []
  gA : mg "is_address" = some (.ref fA)
  terms : ∃ t, mg "MAX_TERMS" = some (.int 3 t)
  times : ∃ t, mg "MAX_TIMES" = some (.int lim0 t)
variable {fW fB fPc fPr fA : Addr} {fdW fdB fdPc fdPr fdA : FuncData}
theorem g_below (T : Ad K mg fW fB fPc fPr fA fdW fdB fdPc fdPr fdA) (B : Bi mg) : FnOk P w K mg base CX0 2 fB fdB ["value", "limit"] (spBelow K) := ok_below T.FB T.FW T.bW T.gW B
end
section
variable {P : Program} {w : World} {K : PySem.W.Frag} {mg : Str → Option Value} {base : Heap}
/-- the node defs -/
structure Gn (K : PySem.W.Frag) (mg : Str → Option Value) (fWh fBe fNm fKd fWk fRw fPo fNd fAn : Addr) (dWh dBe dNm dKd dWk dRw dPo dNd dAn : FuncData) : Prop where
  FWh : Fun K "is_whole" "is_whole" sWhole fWh dWh
  bWh : Binds K dWh ["value"] []
  gWh : mg "is_whole" = some (.ref fWh)
  FBe : Fun K "is_below" "is_below" sBelow fBe dBe
  bBe : Binds K dBe ["value", "limit"] []
  gBe : mg "is_below" = some (.ref fBe)
  FNm : Fun K "is_name" "is_name" sName fNm dNm
  bNm : Binds K dNm ["value"] []
  gNm : mg "is_name" = some (.ref fNm)
  FKd : Fun K "children_of" "children_of" sKids fKd dKd
  bKd : Binds K dKd ["node"] []
  gKd : mg "children_of" = some (.ref fKd)
  FWk : Fun K "with_children" "with_children" sWithK fWk dWk
  bWk : Binds K dWk ["node", "children"] []
  gWk : mg "with_children" = some (.ref fWk)
  FRw : Fun K "_is_row" "_is_row" sRow fRw dRw
  bRw : Binds K dRw ["value", "many"] []
  gRw : mg "_is_row" = some (.ref fRw)
  FPo : Fun K "_is_pair_of" "_is_pair_of" sPairOf fPo dPo
  bPo : Binds K dPo ["value", "kind"] []
  gPo : mg "_is_pair_of" = some (.ref fPo)
  FNd : Fun K "_is_node" "_is_node" sIsNd fNd dNd
  bNd : Binds K dNd ["value", "nodes"] []
  gNd : mg "_is_node" = some (.ref fNd)
  FAn : Fun K "are_nodes" "are_nodes" sAreN fAn dAn
  bAn : Binds K dAn ["values"] []
  gAn : mg "are_nodes" = some (.ref fAn)
variable {fWh fBe fNm fKd fWk fRw fPo fNd fAn : Addr} {dWh dBe dNm dKd dWk dRw dPo dNd dAn : FuncData}
theorem iD_ints {H : Hp} : ∀ {l : List Nat} {xs : List V}, RddAll K H xs (iD l) → xs = l.map fun i => V.int (i : Nat)
  | [], _, h => by cases h; rfl
  | a :: l, _, h => by
    cases h with
    | cons h1 h2 =>
      cases h1
      rw [iD_ints h2]
      rfl
theorem ints_iD {H : Hp} : ∀ l : List Nat, RddAll K H (l.map fun i => V.int (i : Nat)) (iD l)
  | [] => .nil
  | a :: l => .cons (.int _) (ints_iD l)
def spKids (K : PySem.W.Frag) : Sp := fun vs H Q _ => ∃ (v : V) (g : GN), vs = [v] ∧ Rdd K H v (ndD g) ∧ (gk g).length ≤ 3 ∧ ∀ r H', Same H H' → Rdd K H' r (.tup (iD (gk g))) → Q r H'
theorem ok_kids (N : Gn K mg fWh fBe fNm fKd fWk fRw fPo fNd fAn dWh dBe dNm dKd dWk dRw dPo dNd dAn) : FnOk P w K mg base CX0 1 fKd dKd ["node"] (spKids K) := by
  refine N.FKd.ok scKids (fun vs H Q E h => ?_) (fun cdv A outer s H vs Q E hr h => ?_)
  · obtain ⟨v, g, rfl, _⟩ := h
    rfl
  · obtain ⟨v, g, rfl, hv, h3, q⟩ := h
    have sl := sizeLine_eq
    --DK
    refine ⟨_, (pss_cons (ps_if (pt_cmpR op_eq (pe_ix ix_tup (pv 0) pe_int (fun _ _ => rfl)) pe_str (nomark _))
          (pss_one (ps_ret (pe_ix ix_tup (pv 0) pe_int (fun _ _ => rfl)))) pss_nil)
        (pss_cons (ps_if (pt_cmpR op_eq (pe_ix ix_tup (pv 0) pe_int (fun _ _ => rfl)) pe_str (nomark _))
          (pss_one (ps_ret (pe_tup (pa_cons (pe_ix ix_tup (pv 0) pe_int (fun _ _ => rfl)) pa_nil)))) pss_nil)
        (pss_one (ps_ret (pe_tup pa_nil))))), ?_⟩
    --EK
    cases g with
    | W x cs =>
      obtain ⟨a0, xs, rfl, hs, hx, _⟩ := hv.tupd'
      obtain ⟨x1, x2, x3, rfl, r1, r2, r3⟩ := hx.trip
      cases r1
      refine ⟨_, rfl, a0, _, (0 : Int), _, rfl, rfl, hs, atI_nat (j := 0) rfl, rfl, _, rfl, ?_⟩
      rw [str_dec, decide_eq_true rfl]
      exact iteT ⟨_, rfl, a0, _, (2 : Int), _, rfl, rfl, hs, atI_nat (j := 2) rfl, q _ H (Same.refl _) r3⟩
    | F c =>
      obtain ⟨a0, xs, rfl, hs, hx, _⟩ := hv.tupd'
      obtain ⟨x1, x2, rfl, r1, r2⟩ := hx.pair
      cases r1
      cases r2
      refine ⟨_, rfl, a0, _, (0 : Int), _, rfl, rfl, hs, atI_nat (j := 0) rfl, rfl, _, rfl, ?_⟩
      rw [str_dec, decide_eq_false (by decide +kernel)]
      refine iteF ⟨_, rfl, a0, _, (0 : Int), _, rfl, rfl, hs, atI_nat (j := 0) rfl, rfl, _, rfl, ?_⟩
      rw [str_dec, decide_eq_true rfl]
      refine iteT ⟨_, rfl, a0, _, (1 : Int), _, rfl, rfl, hs, atI_nat (j := 1) rfl, (by show 1 ≤ sizeLine; omega), fun p np => ?_⟩
      exact q _ _ (Same.new np) (tup_val upd_same (.cons (.int _) .nil) (by simp [gk, iD]))
    | V f =>
      obtain ⟨a0, xs, rfl, hs, hx, _⟩ := hv.tupd'
      obtain ⟨x1, x2, rfl, r1, r2⟩ := hx.pair
      cases r1
      refine ⟨_, rfl, a0, _, (0 : Int), _, rfl, rfl, hs, atI_nat (j := 0) rfl, rfl, _, rfl, ?_⟩
      rw [str_dec, decide_eq_false (by decide +kernel)]
      refine iteF ⟨_, rfl, a0, _, (0 : Int), _, rfl, rfl, hs, atI_nat (j := 0) rfl, rfl, _, rfl, ?_⟩
      rw [str_dec, decide_eq_false (by decide +kernel)]
      refine iteF ⟨(by show 0 ≤ sizeLine; omega), fun p np => ?_⟩
      exact q _ _ (Same.new np) (tup_val upd_same .nil (by simp [gk, iD]))
/-- a node with other numbers -/
def rl (ν : Nat → Nat) : GN → GN
  | .W x cs => .W x (cs.map ν)
  | .F c => .F (ν c)
  | .V f => .V (ν f)
/-- the numbers in a node -/
def nums : GN → List Nat
  | .W _ cs => cs
  | .F c => [c]
  | .V f => [f]
def spWithK (K : PySem.W.Frag) : Sp := fun vs H Q _ => ∃ (v : V) (g : GN) (l : Addr) (ν : Nat → Nat), vs = [v, .ref l] ∧ Rdd K H v (ndD g) ∧ SqL K H l ((nums g).map fun i => V.int (ν i : Nat)) ∧ (nums g).length ≤ 3 ∧ ∀ r H', Same H H' → Rdd K H' r (ndD (rl ν g)) → Q r H'
theorem ok_withK (N : Gn K mg fWh fBe fNm fKd fWk fRw fPo fNd fAn dWh dBe dNm dKd dWk dRw dPo dNd dAn) (B : Bt mg) : FnOk P w K mg base CX0 1 fWk dWk ["node", "children"] (spWithK K) := by
  refine N.FWk.ok scWithK (fun vs H Q E h => ?_) (fun cdv A outer s H vs Q E hr h => ?_)
  · obtain ⟨v, g, l, ν, rfl, _⟩ := h
    rfl
  · obtain ⟨v, g, l, ν, rfl, hv, hl, h3, q⟩ := h
    have sl := sizeLine_eq
    --DW
    refine ⟨_, (pss_cons (ps_if (pt_cmpR op_eq (pe_ix ix_tup (pv 0) pe_int (fun _ _ => rfl)) pe_str (nomark _))
          (pss_one (ps_ret (pe_tup (pa_cons pe_str (pa_cons (pe_ix ix_tup (pv 0) pe_int (fun _ _ => rfl)) (pa_cons (pe_callTy call_tuple_of (by rfl) B.tuple (by decide +kernel) (pa_cons (pv 1) pa_nil)) pa_nil)))))) pss_nil)
        (pss_one (ps_ret (pe_tup (pa_cons (pe_ix ix_tup (pv 0) pe_int (fun _ _ => rfl)) (pa_cons (pe_ix ix_list (pv 1) pe_int (fun _ _ => rfl)) pa_nil)))))), ?_⟩
    --EW
    cases g with
    | W x cs =>
      obtain ⟨a0, xs, rfl, hs, hx, _⟩ := hv.tupd'
      obtain ⟨x1, x2, x3, rfl, r1, r2, r3⟩ := hx.trip
      cases r1
      cases r2
      refine ⟨_, rfl, a0, _, (0 : Int), _, rfl, rfl, hs, atI_nat (j := 0) rfl, rfl, _, rfl, ?_⟩
      rw [str_dec, decide_eq_true rfl]
      refine iteT ⟨_, rfl, a0, _, (1 : Int), _, rfl, rfl, hs, atI_nat (j := 1) rfl, _, rfl, l, _, rfl, .inl ⟨hl, fun p np => ?_⟩⟩
      have s1 := Same.new (o := .tup ((nums (.W x cs)).map fun i => V.int (ν i : Nat))) np
      have hp : (upd H p (.tup ((nums (.W x cs)).map fun i => V.int (ν i : Nat)))) p = some (.tup ((nums (.W x cs)).map fun i => V.int (ν i : Nat))) := upd_same
      generalize upd H p (.tup ((nums (.W x cs)).map fun i => V.int (ν i : Nat))) = H1 at s1 hp ⊢
      refine ⟨(by show 3 ≤ sizeLine; omega), fun p2 np2 => ?_⟩
      have s2 := Same.new (o := .tup [V.str "word", .str x, .ref p]) np2
      have h3' : cs.length ≤ 3 := h3
      refine q _ _ (s1.trans s2) (tup_val upd_same (.cons (.str _) (.cons (.str _) (.cons (tup_val (s2 _ _ hp) ?_ ?_) .nil))) (by simp))
      · have := ints_iD (K := K) (H := upd H1 p2 (.tup [V.str "word", .str x, .ref p])) (cs.map ν)
        rw [List.map_map] at this
        exact this
      · unfold iD
        rw [List.length_map, List.length_map]
        omega
    | F c =>
      obtain ⟨a0, xs, rfl, hs, hx, _⟩ := hv.tupd'
      obtain ⟨x1, x2, rfl, r1, r2⟩ := hx.pair
      cases r1
      refine ⟨_, rfl, a0, _, (0 : Int), _, rfl, rfl, hs, atI_nat (j := 0) rfl, rfl, _, rfl, ?_⟩
      rw [str_dec, decide_eq_false (by decide +kernel)]
      refine iteF ⟨_, rfl, a0, _, (0 : Int), _, rfl, rfl, hs, atI_nat (j := 0) rfl, _, rfl, l, _, (0 : Int), _, rfl, rfl, hl, atI_nat (j := 0) rfl, (by show 2 ≤ sizeLine; omega), fun p np => ?_⟩
      exact q _ _ (Same.new np) (tup_val upd_same (.cons (.str _) (.cons (.int _) .nil)) (by simp))
    | V f =>
      obtain ⟨a0, xs, rfl, hs, hx, _⟩ := hv.tupd'
      obtain ⟨x1, x2, rfl, r1, r2⟩ := hx.pair
      cases r1
      refine ⟨_, rfl, a0, _, (0 : Int), _, rfl, rfl, hs, atI_nat (j := 0) rfl, rfl, _, rfl, ?_⟩
      rw [str_dec, decide_eq_false (by decide +kernel)]
      refine iteF ⟨_, rfl, a0, _, (0 : Int), _, rfl, rfl, hs, atI_nat (j := 0) rfl, _, rfl, l, _, (0 : Int), _, rfl, rfl, hl, atI_nat (j := 0) rfl, (by show 2 ≤ sizeLine; omega), fun p np => ?_⟩
      exact q _ _ (Same.new np) (tup_val upd_same (.cons (.str _) (.cons (.int _) .nil)) (by simp))
end
end Sl

set_option Elab.async false
set_option linter.all false
set_option maxRecDepth 100000
set_option maxHeartbeats 400000
/-! ## t[::-1], t a tuple -/
namespace Sl
open PySem PySem.Spec PyProof.Rows L2
section
variable {prog : Program} {w : World} {A : Around} {E : Value → Shared → Prop} {s : Shared}
theorem adjust_rev (n : Nat) : Builtin.Slice.sliceAdjust none none (-1) (n : Int) = ((n : Int) - 1, -1) := by
  unfold Builtin.Slice.sliceAdjust
  have h1 : ((-1 : Int) < 0) := by omega
  simp only [h1, if_true]
theorem places_rev (n : Nat) : Builtin.Slice.slicePlaces ((n : Int) - 1) (-1) (-1) = n := by
  unfold Builtin.Slice.slicePlaces
  have h1 : ¬ ((-1 : Int) > 0) := by omega
  simp only [h1, if_false]
  rw [show (-(-1 : Int)) = 1 from rfl, Int.ediv_one]
  split <;> omega
theorem applied_rev {sl : Addr} {n : Nat} {vl vu vs : Value} {Q : Int × Int × Nat → Shared → Prop} (hs : s.heap.IsSliceOf sl vl vu vs) (pl : IsPart vl none) (pu : IsPart vu none) (ps : IsPart vs (some (-1))) (h : Q ((n : Int) - 1, -1, n) s) :
    wpAny (model prog w) A (Builtin.Slice.sliceApplied (.ref sl) (pure (n : Int))) Q E s := by
  obtain ⟨os, hos, hcs, hds⟩ := id hs
  cases pl
  cases pu
  cases ps
  unfold Builtin.Slice.sliceApplied Builtin.Slice.sliceFields
  refine wpAny_bind (wpAny_bind (wpAny_field hos hds rfl (wpAny_bind (wpAny_field hos hds rfl (wpAny_bind (wpAny_field hos hds rfl (wpAny_pure ?_)))))))
  refine wpAny_bind (slicePart_int ?_)
  show wpAny _ _ (if ((-1 : Int) == 0) = true then _ else _) _ _ s
  rw [if_neg (by decide)]
  refine wpAny_bind (slicePart_none (wpAny_bind (slicePart_none (wpAny_bind (wpAny_pure ?_)))))
  show wpAny _ _ (match Builtin.Slice.sliceAdjust none none (-1) (n : Int) with | (lo, hi) => pure (lo, (-1 : Int), Builtin.Slice.slicePlaces lo hi (-1))) _ _ s
  rw [adjust_rev n]
  show wpAny _ _ (pure ((n : Int) - 1, (-1 : Int), Builtin.Slice.slicePlaces ((n : Int) - 1) (-1) (-1))) _ _ s
  rw [places_rev n]
  exact wpAny_pure h
theorem pick_rev (xs : Array Value) : ((List.range xs.size).filterMap fun (k : Nat) => xs[((xs.size : Int) - 1 + (k : Int) * (-1)).toNat]?).toArray = xs.toList.reverse.toArray := by
  have e : (List.range xs.size).filterMap (fun (k : Nat) => xs[((xs.size : Int) - 1 + (k : Int) * (-1)).toNat]?) = ((List.range xs.size).map fun k => xs.size - 1 - k).filterMap (xs[·]?) := by
    rw [List.filterMap_map]
    refine congrArg (fun f => (List.range xs.size).filterMap f) (funext fun k => ?_)
    show xs[((xs.size : Int) - 1 + (k : Int) * (-1)).toNat]? = xs[xs.size - 1 - k]?
    rw [show ((xs.size : Int) - 1 + (k : Int) * (-1)).toNat = xs.size - 1 - k by omega]
  rw [e, PySem.W.krv_range, List.filterMap_reverse, PySem.W.krv_all]
theorem getItem_tuple_rev {t sl : Addr} {items : Array Value} {vl vu vs : Value} {Q : Value → Shared → Prop} (ht : IsTup s.heap t items) (hs : s.heap.IsSliceOf sl vl vu vs) (pl : IsPart vl none) (pu : IsPart vu none) (ps : IsPart vs (some (-1)))
    (h : Q (.ref s.heap.objs.size) { s with heap := s.heap.push { cls := .type "tuple", data := .seq items.toList.reverse.toArray } }) (hsz : items.size ≤ sizeLine) : wpAny (model prog w) A (getItem (.ref t) (.ref sl)) Q E s := by
  have hz : sizeOk (.seq items.toList.reverse.toArray) := by
    show items.toList.reverse.toArray.size ≤ sizeLine
    rw [List.size_toArray, List.length_reverse, Array.length_toList]
    exact hsz
  obtain ⟨os, hos, hcs, hds⟩ := id hs
  have hTs : s.TypeIs (.ref sl) "slice" := ⟨os, hos, hcs⟩
  unfold getItem
  try with_reducible refine wpAny_holding ?_
  first | refine wpAny_bind (wpAny_pure ?_) | skip
  refine wpAny_bind (wpAny_sequenceKey ht.typeIs (by decide) ?_)
  refine wpAny_bind (wpAny_callSpecial?_slot (name := Str.ofString "__getitem__") ht.typeIs slot_tuple_getitem
    (wpAny_call_entry slot_tuple_getitem ht.typeIs entry_tuple_getitem ?_ (args_tuple_getitem _ _)))
  show wpAny _ _ (Builtin.Tuple.tupleItemsOf (.ref t) >>= _) _ _ s
  refine wpAny_bind (tupleItemsOf_ ht ?_)
  refine wpAny_bind (wpAny_typeOf hTs ?_)
  rw [if_pos (by decide)]
  refine wpAny_bind (applied_rev hs pl pu ps ?_)
  show wpAny _ _ (if (((items.size : Int) - 1 == 0 && (-1 : Int) == 1 && items.size == items.size) = true) then _ else _) _ _ s
  rw [if_neg (by simp), pick_rev]
  first
    | exact wpAny_bind (m := Builtin.Tuple.tupleExact _) (wpAny_newObj_type (wpAny_pure ⟨_, rfl, wpAny_pure h⟩) hz)
    | exact wpAny_bind (m := Builtin.Tuple.tupleExact _) (wpAny_newObj_type (wpAny_bind (wpAny_pure (wpAny_pure ⟨_, rfl, wpAny_pure h⟩))) hz)
    | exact wpAny_bind (wpAny_bind (m := Builtin.Tuple.tupleExact _) (wpAny_newObj_type (wpAny_pure (wpAny_pure ⟨_, rfl, wpAny_pure h⟩)) hz))
    | exact wpAny_bind (wpAny_bind (m := Builtin.Tuple.tupleExact _) (wpAny_newObj_type (wpAny_pure ⟨_, rfl, wpAny_pure h⟩) hz))
end
section
variable {X : Cx}
def tRevTu (K : PySem.W.Frag) (te : TE) : TE := fun σ H Q => te σ H fun x H1 => ∃ a xs, x = .ref a ∧ SqT K H1 a xs ∧ ∀ p, H1 p = none → Q (.ref p) (upd H1 p (.tup xs.reverse))
theorem pe_revTu {e : Expr} {te : TE} {k : Nat} {p1 p2 p3 pos : Pos} (he : PE X e te) : PE X (.Subscript e (.Slice none none (some (.UnaryOp .USub (.Constant (.int 1) k p1) p2)) p3) pos) (tRevTu X.K te) := by
  refine ⟨fun pins s σ H Q I h => ?_⟩
  refine Subscript_ (thn (he.run pins s σ H _ I h) fun v s1 ⟨x, H1, I1, r1, a, xs, ex, hx, q⟩ => ?_)
  subst ex
  cases r1
  have hst : PO X (some (.UnaryOp .USub (.Constant (.int 1) k p1) p2)) (tPart (tUn (rU fun i => .int (-i)) (tC (.int 1)))) := po_some (pe_un un_neg pe_int)
  refine wpAny_Slice (thn (po_none.run pins s1 σ H1 (fun o H2 => o = none ∧ H2 = H1) I1 ⟨rfl, rfl⟩) fun vl s2 ⟨l, H2, I2, pl, el, e2⟩ => ?_)
  subst el e2
  refine thn (po_none.run pins s2 σ H2 (fun o H3 => o = none ∧ H3 = H2) I2 ⟨rfl, rfl⟩) fun vu s3 ⟨u, H3, I3, pu, eu, e3⟩ => ?_
  subst eu e3
  refine thn (hst.run pins s3 σ H3 (fun o H4 => o = some (-1) ∧ H4 = H3) I3 ⟨1, rfl, -1, rfl, rfl, rfl⟩) fun vs s4 ⟨o, H4, I4, ps, eo, e4⟩ => ?_
  subst eo e4
  have I5 : Inv X pins σ H4 { s4 with heap := s4.heap.push { cls := .type "slice", data := .fields #[vl, vu, vs] } } := I4.kept (t' := s4.toks) fun b ob q => Heap.get?_push_of_some _ q
  obtain ⟨its, r, ht, hz⟩ := I5.tuple hx
  have hlen := r.length
  refine tail_any (ops := [.ref a, .ref s4.heap.objs.size]) ht.typeIs slot_tuple_getitem.lookup ?_ (by with_unfolding_all rfl)
  refine getItem_tuple_rev ht (Heap.IsSliceOf.new _ vl vu vs) pl pu ps ?_ (by rw [List.size_toArray]; omega)
  exact ⟨.ref _, _, I5.laid (t' := s4.toks) (o := .tup xs.reverse) (fun b ob q => Heap.get?_push_of_some _ q) (Nat.le_refl _) ⟨by rw [List.length_reverse]; exact hz, _, r.reverse, IsTup.new _ _⟩, rfl, q _ (I5.hok.fresh (Nat.le_refl _))⟩
end
end Sl

set_option Elab.async false
set_option linter.all false
set_option maxRecDepth 100000
set_option maxHeartbeats 400000
/-! ### {**a, k: v}, {**a, **b} -/
namespace PySem
open Sem (wp)
section
variable {prog : Program} {w : World} {K : Type} [DecidableEq K] {knd : KeyKind prog w K} {A : Around} {E : Value → Shared → Prop} {s : Shared}
theorem wpAny_dictPut_pairs {d : Addr} {kvs : List (K × Value)} {k : K} {key v : Value} {Q : Unit → Shared → Prop} (hkey : knd.is k key = true) (hm : s.heap.DictOf knd d kvs)
    (hQ : ∀ h', h'.DictOf knd d (stored kvs k v) → Heap.SameBut d s.heap h' → Q () { s with heap := h' })
    (hsz : kvs.length ≤ sizeLine := by size_fits) :
    wpAny (model prog w) A (dictPut d (knd.hash k) key v) Q E s := by
  obtain ⟨o, es, ep, ho, hc, hd, hk, hp, hn⟩ := hm
  have hes : es.size ≤ sizeLine := by have e1 := hp.length; have e2 : es.toList.length = es.size := by simp
                                      omega
  unfold dictPut
  refine wpAny_bind (wpAny_dictFind_of hkey ho hd hk ?_)
  have hidx : (es.findIdx? fun e => knd.is k e.key) = kvs.findIdx? fun kv => decide (kv.1 = k) := by
    rw [← hp.findIdx k]; obtain ⟨l⟩ := es; simp
  cases hi : es.findIdx? fun e => knd.is k e.key with
  | some i =>
    refine wpAny_updateDict ho hd (hQ _ ⟨_, _, ep, Heap.get?_update_self _ ho (Obj.isFreed_of_dict (Obj.data_mapDict hd _)),
      hc.mapDict _, Obj.data_mapDict hd _, hk.modify _ _, ?_, ?_⟩ (Heap.SameBut.update ..))
    · rw [stored, if_pos (any_of_findIdx_some (hidx ▸ hi))]
      have hl : (es.toList.findIdx? fun e => knd.is k e.key) = some i := by rw [← hi]; obtain ⟨l⟩ := es; simp
      have := hp.modify hn hl v
      obtain ⟨l⟩ := es
      simpa using this
    · rw [stored, if_pos (any_of_findIdx_some (hidx ▸ hi)), keys_map_store]; exact hn
  | none =>
    have hnot : k ∉ kvs.map (·.1) := not_mem_of_findIdx_none (hidx ▸ hi)
    have hany : ¬ (kvs.any fun kv => decide (kv.1 = k)) = true := by
      rw [List.any_eq_true]; rintro ⟨kv, hkv, he⟩
      exact hnot (List.mem_map.mpr ⟨kv, hkv, of_decide_eq_true he⟩)
    refine wpAny_updateDictKeys (hz := hes) ho hd (hQ _ ⟨_, _, ep + 1, Heap.get?_update_self _ ho (Obj.isFreed_of_dict (Obj.data_mapDictKeys hd _)),
      hc.mapDictKeys _, Obj.data_mapDictKeys hd _, hk.push hkey _, ?_, ?_⟩ (Heap.SameBut.update ..))
    · rw [stored, if_neg hany]
      have := hp.append hkey (knd.hash k) v
      obtain ⟨l⟩ := es
      simpa using this
    · rw [stored, if_neg hany, List.map_append, List.nodup_append]
      refine ⟨hn, by simp, ?_⟩
      intro a ha b hb
      simp only [List.map_cons, List.map_nil, List.mem_singleton] at hb
      subst hb
      exact fun e => hnot (e ▸ ha)
theorem wpAny_mergeMapping {d o : Addr} {kvs more : List (K × Value)} {Q : Unit → Shared → Prop} (hdo : d ≠ o) (hoS : (o == sysModules) = false) (hnr : ∀ k v, knd.is k v = true → ∀ a, v ≠ .ref a)
    (hd : s.heap.DictOf knd d kvs) (ho : s.heap.DictOf knd o more)
    (hQ : ∀ h', h'.DictOf knd d (merged kvs more) → h'.DictOf knd o more → Heap.SameBut d s.heap h' → Q () { s with heap := h' })
    (hsz : kvs.length + more.length ≤ sizeLine := by size_fits) :
    wpAny (model prog w) A (mergeMapping d (.ref o) false) Q E s := by
  obtain ⟨od, esd, epd, hod, hcd, hdd, hkd, hpd, hnd⟩ := id hd
  obtain ⟨oo, eso, epo, hoo, hco, hdo', hko, hpo, hno⟩ := id ho
  unfold mergeMapping
  refine wpAny_bind (wpAny_isInstance ho.typeIs isSubtype_dict_dict ?_)
  simp only [if_true]
  refine wpAny_bind (wpAny_specialOf ho.typeIs F.slot_dict_iter.lookup ?_)
  simp only [beq_self_eq_true]
  refine wpAny_bind (wpAny_pure ?_)
  dsimp only
  rw [if_neg (by rw [hoS]; exact Bool.false_ne_true)]
  refine wpAny_bind (wpAny_dictEntries hod hdd ?_)
  simp only [Bool.false_eq_true, if_false]
  have hlen : more.length = eso.size := by rw [← hpo.length]; simp
  have loop : wpAny (model prog w) A (do
      let l ← dictEntries o
      let epoch ← dictEpoch o
      forIn (List.range l.size) PUnit.unit fun i (_ : PUnit) => (do
          let l' ← dictEntries o
          match l'[i]? with
            | some e => do
              holding [e.key, e.val] (dictPut d e.hash e.key e.val)
              let ep' ← dictEpoch o
              if (ep' != epoch) = true then do
                  (unsupported "dict.changed-during-merge" : Sem PUnit)
                  pure (ForInStep.yield PUnit.unit)
                else pure (ForInStep.yield PUnit.unit)
            | _ => do
              (unsupported "dict.changed-during-merge" : Sem PUnit)
              pure (ForInStep.yield PUnit.unit) : Sem (ForInStep PUnit))
      pure ()) Q E s := by
    refine wpAny_bind (wpAny_dictEntries hoo hdo' ?_)
    refine wpAny_bind (wpAny_dictEpoch hoo hdo' ?_)
    refine wpAny_bind ?_
    rw [List.range_eq_range']
    refine wpAny_forIn_list _
      (fun rest _ s' => ∃ h' i, s' = { s with heap := h' } ∧ rest = List.range' i (eso.size - i) ∧ i ≤ eso.size ∧ h'.DictOf knd d (merged kvs (more.take i)) ∧ h'.get? o = some oo ∧ Heap.SameBut d s.heap h')
      _ ?_ ?_ _ _ ⟨s.heap, 0, rfl, by simp, Nat.zero_le _, by simpa [merged] using hd, hoo, Heap.SameBut.refl _ _⟩
    · rintro x rest b s' ⟨h', i, rfl, hr, hi, hd', hoo', hs'⟩
      have hlt : i < eso.size := by
        rcases Nat.lt_or_ge i eso.size with h | h
        · exact h
        · rw [Nat.sub_eq_zero_of_le h] at hr; simp at hr
      obtain ⟨rfl, hrest⟩ : x = i ∧ rest = List.range' (i + 1) (eso.size - (i + 1)) := by
        have e : eso.size - i = (eso.size - (i + 1)) + 1 := by omega
        rw [e, List.range'_succ] at hr
        injection hr with h1 h2
        exact ⟨h1, h2⟩
      refine wpAny_bind (wpAny_dictEntries hoo' hdo' ?_)
      rw [Array.getElem?_eq_getElem hlt]
      obtain ⟨kv, hkv⟩ : ∃ kv, more[x]? = some kv := ⟨more[x]'(by rw [hlen]; exact hlt), List.getElem?_eq_getElem _⟩
      obtain ⟨k, v⟩ := kv
      obtain ⟨hkey, hval⟩ := hpo.get? (e := eso[x]) (by simp [hlt]) hkv
      obtain ⟨k', hkey', hhash⟩ := hko eso[x] (Array.getElem_mem hlt)
      obtain rfl : k' = k := knd.inj _ _ _ hkey' hkey
      show wpAny _ _ (holding [eso[x].key, eso[x].val] (dictPut d eso[x].hash eso[x].key eso[x].val) >>= _) _ _ _
      rw [hhash, hval]
      have hmx : (merged kvs (more.take x)).length ≤ sizeLine := by
        have e1 := merged_length_le kvs (more.take x)
        have e2 : (more.take x).length ≤ more.length := by rw [List.length_take]; omega
        omega
      refine wpAny_bind (wpAny_holding (wpAny_dictPut_pairs (hsz := hmx) hkey hd' fun h'' hd'' hs'' => ?_))
      have hoo'' : h''.get? o = some oo := (hs''.2 o (Ne.symm hdo)).trans hoo'
      refine wpAny_bind (wpAny_dictEpoch hoo'' hdo' ?_)
      rw [if_neg (by simp)]
      exact wpAny_pure ⟨h'', x + 1, rfl, hrest, hlt, by rw [merged_take_succ kvs more x (k', v) hkv]; exact hd'', hoo'', hs'.trans hs''⟩
    · rintro b s' ⟨h', i, rfl, hr, hi, hd', hoo', hs'⟩
      have hin : i = eso.size := by
        rcases Nat.lt_or_ge i eso.size with h | h
        · have e : eso.size - i = (eso.size - (i + 1)) + 1 := by omega
          rw [e, List.range'_succ] at hr; exact nomatch hr
        · exact Nat.le_antisymm hi h
      refine wpAny_pure (hQ h' ?_ ⟨oo, eso, epo, hoo', hco, hdo', hko, hpo, hno⟩ hs')
      rw [hin, ← hlen, List.take_length] at hd'; exact hd'
  split
  · refine wpAny_bind (wpAny_dictEntries hoo hdo' ?_)
    have hloop : (forIn eso PUnit.unit fun e (_ : PUnit) => (match e.key with
        | Value.ref a => (do
          let q ← specialOf e.key (Str.ofString "__eq__")
          if (q != some (Value.builtin "object.__eq__")) = true then
            if (Array.filter (fun x => x.hash == e.hash) eso).size > 1 then (do
              (unsupported "dict.merge-into-an-empty-dict:keys-of-equal-hash" : Sem PUnit)
              pure (ForInStep.yield PUnit.unit))
            else pure (ForInStep.yield PUnit.unit)
          else pure (ForInStep.yield PUnit.unit) : Sem (ForInStep PUnit))
        | x => pure (ForInStep.yield PUnit.unit) : Sem (ForInStep PUnit))) = pure PUnit.unit := by
      rw [← Array.forIn_toList]
      refine forIn_yield_id _ fun e he c => ?_
      obtain ⟨k, hkey, _⟩ := hko e (Array.mem_toList_iff.mp he)
      have hn := hnr k _ hkey
      split
      · rename_i a e1
        exact absurd e1 (hn a)
      · rfl
    exact wpAny_bind (wpAny_of_eq hloop loop)
  · exact loop
end
end PySem
namespace PySem
section
variable {prog : Program} {w : World} {A : Around} {E : Value → Shared → Prop} {s : Shared}
theorem wpAny_spread2 {a : Sem Value} {k v : Sem Value} {Q : Value → Shared → Prop}
    (h : wpAny (model prog w) A a (fun m s1 => wpAny (model prog w) A (mergeMapping s.heap.objs.size m false) (fun _ s2 => wpAny (model prog w) A (subDict [(k, v)]) (fun sub s3 => wpAny (model prog w) A (mergeMapping s.heap.objs.size (.ref sub) false) (fun _ s4 => Q (.ref s.heap.objs.size) s4) (fun _ _ => False) s3) E s2) (fun _ _ => False) s1) E
      { s with heap := s.heap.push { cls := .type "dict", data := .dict #[] } }) :
    wpAny (model prog w) A (dictDisplay [(none, a), (some k, v)]) Q E s := by
  unfold dictDisplay
  simp only [List.forIn_cons, List.forIn_nil, List.isEmpty_nil, if_true, pure_bind, bind_pure_comp, bind_assoc, List.nil_append, List.length_singleton]
  refine wpAny_bind (wpAny_alloc ?_)
  refine wpAny_bind (wpAny_holding (wpAny_mono h (fun m s1 h1 => ?_) fun _ _ e => e))
  refine wpAny_bind (wpAny_map (wpAny_onRaise (wpAny_tryCatch (wpAny_onRaise (wpAny_holding (wpAny_mono h1 (fun _ s2 h2 => ?_) fun _ _ e => e.elim))))))
  dsimp only
  simp only [List.nil_append, List.length_singleton, List.isEmpty_cons, Bool.false_eq_true, if_false]
  rw [if_neg (by decide)]
  refine wpAny_bind (wpAny_bind (wpAny_pure ?_))
  dsimp only
  refine wpAny_pure ?_
  simp only [List.isEmpty_cons, Bool.false_eq_true, if_false]
  refine wpAny_bind (wpAny_bind (wpAny_holding (wpAny_mono h2 (fun sub s3 h3 => ?_) fun _ _ e => e)))
  refine wpAny_map (wpAny_onRaise (wpAny_holding (wpAny_mono h3 (fun _ s4 h4 => ?_) fun _ _ e => e.elim)))
  exact wpAny_pure h4
theorem wpAny_spread1 {a b : Sem Value} {Q : Value → Shared → Prop}
    (h : wpAny (model prog w) A a (fun m s1 => wpAny (model prog w) A (mergeMapping s.heap.objs.size m false) (fun _ s2 => wpAny (model prog w) A b (fun m2 s3 => wpAny (model prog w) A (mergeMapping s.heap.objs.size m2 false) (fun _ s4 => Q (.ref s.heap.objs.size) s4) (fun _ _ => False) s3) E s2) (fun _ _ => False) s1) E
      { s with heap := s.heap.push { cls := .type "dict", data := .dict #[] } }) :
    wpAny (model prog w) A (dictDisplay [(none, a), (none, b)]) Q E s := by
  unfold dictDisplay
  simp only [List.forIn_cons, List.forIn_nil, List.isEmpty_nil, if_true, pure_bind, bind_pure_comp, bind_assoc, List.nil_append, List.length_singleton]
  refine wpAny_bind (wpAny_alloc ?_)
  refine wpAny_bind (wpAny_holding (wpAny_mono h (fun m s1 h1 => ?_) fun _ _ e => e))
  refine wpAny_bind (wpAny_map (wpAny_onRaise (wpAny_tryCatch (wpAny_onRaise (wpAny_holding (wpAny_mono h1 (fun _ s2 h2 => ?_) fun _ _ e => e.elim))))))
  dsimp only
  simp only [List.isEmpty_nil, if_true, pure_bind]
  refine wpAny_bind (wpAny_bind (wpAny_bind (wpAny_holding (wpAny_mono h2 (fun m2 s3 h3 => ?_) fun _ _ e => e))))
  refine wpAny_map (wpAny_onRaise (wpAny_tryCatch (wpAny_onRaise (wpAny_holding (wpAny_mono h3 (fun _ s4 h4 => ?_) fun _ _ e => e.elim)))))
  dsimp only
  refine wpAny_pure ?_
  simp only [List.isEmpty_nil, if_true, pure_bind]
  exact wpAny_pure h4
end
end PySem

namespace Sl
open PySem PySem.Spec PyProof.Rows L2
theorem mix_noRef {P : Program} {w : World} (k : Key) (v : Value) (h : (mixKind P w).is k v = true) (a : Addr) : v ≠ .ref a := by
  intro e
  subst e
  cases k with
  | inl i => exact Bool.noConfusion (show false = true from h)
  | inr x => exact Bool.noConfusion (show false = true from h)
theorem kv_keys {kvs : List (Key × V)} {vs : List (Key × Value)} (r : KV kvs vs) : kvs.map (·.1) = vs.map (·.1) := by
  unfold KV at r
  induction r with
  | nil => rfl
  | cons h t ih => rw [List.map_cons, List.map_cons, h.1, ih]
/-- {**a, k: v} -/
def tSpread (ta tk tv : TE) : TE := fun σ H Q => ∀ p, H p = none → ta σ (upd H p (.dK [])) fun x H1 => ∃ a kvs, x = .ref a ∧ a ≠ p ∧ H1 p = some (.dK []) ∧ H1 a = some (.dK kvs) ∧ kvs.length + 1 ≤ sizeLine ∧
  ∀ q, upd H1 p (.dK kvs) q = none → tPairs [(tk, tv)] σ (upd (upd H1 p (.dK kvs)) q (.dK [])) fun ps H2 => H2 q = some (.dK []) ∧ H2 p = some (.dK kvs) ∧ ∃ k y, ps = [(kV k, y)] ∧ Q (.ref p) (upd (upd H2 q (.dK [(k, y)])) p (.dK (putK kvs k y)))
/-- {**a, **b} -/
def tSpread2 (ta tb : TE) : TE := fun σ H Q => ∀ p, H p = none → ta σ (upd H p (.dK [])) fun x H1 => ∃ a kvs, x = .ref a ∧ a ≠ p ∧ H1 p = some (.dK []) ∧ H1 a = some (.dK kvs) ∧
  tb σ (upd H1 p (.dK kvs)) fun y H2 => ∃ b more, y = .ref b ∧ b ≠ p ∧ H2 p = some (.dK kvs) ∧ H2 b = some (.dK more) ∧ kvs.length + more.length ≤ sizeLine ∧ ((more.map (·.1)).Nodup → Q (.ref p) (upd H2 p (.dK (mergeK kvs more))))
theorem kv_merge_nil {P : Program} {w : World} {h : Heap} {a : Addr} {kvs : List (Key × V)} {vs : List (Key × Value)} (dd : h.DictOf (mixKind P w) a vs) : merged [] vs = vs := by
  obtain ⟨_, _, _, _, _, _, _, _, hn⟩ := dd
  exact merged_nil_of_nodup vs hn
section
variable {X : Cx} {pins : List (Addr × Obj)} {σ : L2.St} {H : Hp} {s : Shared} {p a : Addr} {kvs more : List (Key × V)} {Q : Unit → Shared → Prop}
theorem d_merge (I : Inv X pins σ H s) (hp : H p = some (.dK kvs)) (ha : H a = some (.dK more)) (ne : a ≠ p) (hz : kvs.length + more.length ≤ sizeLine) (h : ∀ s', Inv X pins σ (upd H p (.dK (mergeK kvs more))) s' → Q () s') :
    wpAny (model X.prog X.w) X.A (mergeMapping p (.ref a) false) Q (fun _ _ => False) s := by
  obtain ⟨_, hd1, vs, r1, d1⟩ := dk_of I.hok hp
  obtain ⟨_, hd2, ws, r2, d2⟩ := dk_of I.hok ha
  have l1 := r1.length
  have l2 := r2.length
  refine wpAny_mergeMapping (knd := mixKind X.prog X.w) (Ne.symm ne) hd2 mix_noRef d1 d2 (fun h' dd' _ hs => h _ ?_) (by omega)
  have he : ∃ q, h'.get? p = some q := let ⟨q, _, _, hq, _⟩ := dd'; ⟨q, hq⟩
  have lm := length_mergeK more kvs
  exact d_write I (by rw [hp]; exact True.intro) hs he (dk_new (by omega) hd1 (r2.merge r1) dd')
theorem merge_nil_kvs (I : Inv X pins σ H s) (ha : H a = some (.dK kvs)) : mergeK [] kvs = kvs := by
  obtain ⟨_, _, vs, r, dd⟩ := dk_of I.hok ha
  have hn : (vs.map (·.1)).Nodup := let ⟨_, _, _, _, _, _, _, _, hn⟩ := dd; hn
  have e : kvs.map (·.1) = vs.map (·.1) := kv_keys r
  rw [← e] at hn
  have key : ∀ (l acc : List (Key × V)), ((acc ++ l).map (·.1)).Nodup → mergeK acc l = acc ++ l := by
    intro l
    induction l with
    | nil =>
      intro acc _
      show acc = acc ++ []
      rw [List.append_nil]
    | cons x l ih =>
      intro acc h
      have e1 : putK acc x.1 x.2 = acc ++ [x] := by
        unfold putK
        rw [if_neg]
        intro z
        obtain ⟨y, hy, ey⟩ := List.any_eq_true.mp z
        rw [List.map_append, List.map_cons] at h
        exact (List.nodup_append.mp h).2.2 y.1 (List.mem_map.mpr ⟨y, hy, rfl⟩) x.1 List.mem_cons_self (of_decide_eq_true ey)
      show mergeK (putK acc x.1 x.2) l = _
      rw [e1, ih]
      · rw [List.append_assoc]
        rfl
      · rw [List.append_assoc]
        exact h
  simpa using key kvs [] (by simpa using hn)
end
section
variable {X : Cx} {a b k v : Expr} {ta tb tk tv : TE} {pos : Pos}
theorem pe_spread (ha : PE X a ta) (hk : PE X k tk) (hv : PE X v tv) : PE X (.Dict [none, some k] [a, v] pos) (tSpread ta tk tv) := by
  refine ⟨fun pins s σ H Q I h => ?_⟩
  have sl := sizeLine_eq
  have hn := I.hok.fresh (Nat.le_refl s.heap.objs.size)
  have I1 := I.laid (a := s.heap.objs.size) (o := .dK []) (h' := s.heap.push { cls := .type "dict", data := .dict #[] }) (t' := s.toks) (fun _ _ q => Heap.get?_push_of_some _ q) (Nat.le_refl _) (dk_empty s.heap I.big)
  rw [arm_eval_Dict]
  refine wpAny_bind (wpAny_standAt ?_)
  show wpAny _ _ (dictDisplay [(none, (do let x ← eval a X.env; standAt pos; pure x)), (some (eval k X.env), (do let x ← eval v X.env; standAt pos; pure x))]) _ _ _
  refine wpAny_spread2 (wpAny_bind (thn (ha.run pins _ σ _ _ I1 (h _ hn)) fun u s1 ⟨x, H1, I2, rx, a1, kvs, ex, ne, h1p, h1a, hz, q⟩ => ?_))
  subst ex
  obtain rfl : u = Value.ref a1 := rx
  refine wpAny_bind (wpAny_standAt (wpAny_pure ?_))
  have e0 := merge_nil_kvs I2 h1a
  refine d_merge I2 h1p h1a ne (by rw [List.length_nil]; omega) fun s2 I3 => ?_
  rw [e0] at I3
  have hn3 := I3.hok.fresh (Nat.le_refl s2.heap.objs.size)
  have q' := q _ hn3
  have I4 := I3.laid (a := s2.heap.objs.size) (o := .dK []) (h' := s2.heap.push { cls := .type "dict", data := .dict #[] }) (t' := s2.toks) (fun _ _ q => Heap.get?_push_of_some _ q) (Nat.le_refl _) (dk_empty s2.heap I3.big)
  have hP : PPs X pos [some k] [v] [(tk, tv)] := pps_cons hk hv pps_nil
  refine wpAny_subDict (knd := mixKind X.prog X.w) (by simp) (thn (hP.run pins _ σ _ _ I4 q') fun ws s3 ⟨ps, H2, I5, rel, h2q, h2p, kk, y, ep, qq⟩ => ?_)
  subst ep
  obtain ⟨rs, c, rk⟩ := carries_of (P := X.prog) (w := X.w) (kvs := [(kk, y)]) rel
  obtain ⟨z, hd, vs0, r0, dd⟩ := dk_of I5.hok h2q
  cases r0
  refine ⟨rs, c, dd, fun h' dd' hs => ?_⟩
  have he : ∃ q, h'.get? s2.heap.objs.size = some q := let ⟨q, _, _, hq, _⟩ := dd'; ⟨q, hq⟩
  have I6 := d_write (t' := s3.toks + ws.length) I5 (by rw [h2q]; exact True.intro) hs he (dk_new (kvs := [(kk, y)]) (by rw [sl]; simp) hd (rk.merge .nil) dd')
  have npq : s.heap.objs.size ≠ s2.heap.objs.size := fun z => by
    rw [← z, upd_same] at hn3
    cases hn3
  refine wpAny_mono (d_merge I6 (p := s.heap.objs.size) (a := s2.heap.objs.size) (kvs := kvs) (more := [(kk, y)]) (by rw [upd_ne npq]; exact h2p) upd_same (Ne.symm npq) (by simp; omega) fun s' I7 => ⟨.ref s.heap.objs.size, _, I7, rfl, qq⟩) (fun _ _ z => z) fun _ _ z => z
theorem pe_spread2 (ha : PE X a ta) (hb : PE X b tb) : PE X (.Dict [none, none] [a, b] pos) (tSpread2 ta tb) := by
  refine ⟨fun pins s σ H Q I h => ?_⟩
  have hn := I.hok.fresh (Nat.le_refl s.heap.objs.size)
  have I1 := I.laid (a := s.heap.objs.size) (o := .dK []) (h' := s.heap.push { cls := .type "dict", data := .dict #[] }) (t' := s.toks) (fun _ _ q => Heap.get?_push_of_some _ q) (Nat.le_refl _) (dk_empty s.heap I.big)
  rw [arm_eval_Dict]
  refine wpAny_bind (wpAny_standAt ?_)
  show wpAny _ _ (dictDisplay [(none, (do let x ← eval a X.env; standAt pos; pure x)), (none, (do let x ← eval b X.env; standAt pos; pure x))]) _ _ _
  refine wpAny_spread1 (wpAny_bind (thn (ha.run pins _ σ _ _ I1 (h _ hn)) fun u s1 ⟨x, H1, I2, rx, a1, kvs, ex, ne, h1p, h1a, q⟩ => ?_))
  subst ex
  obtain rfl : u = Value.ref a1 := rx
  refine wpAny_bind (wpAny_standAt (wpAny_pure ?_))
  have e0 := merge_nil_kvs I2 h1a
  have z1 := (dk_of I2.hok h1a).1
  refine d_merge I2 h1p h1a ne (by rw [List.length_nil]; omega) fun s2 I3 => ?_
  rw [e0] at I3
  refine wpAny_bind (thn (hb.run pins _ σ _ _ I3 q) fun u2 s3 ⟨y, H2, I4, ry, b1, more, ey, ne2, h2p, h2b, hz, qq⟩ => ?_)
  subst ey
  obtain rfl : u2 = Value.ref b1 := ry
  have nm : (more.map (·.1)).Nodup := by
    obtain ⟨_, _, vs, r, dd⟩ := dk_of I4.hok h2b
    rw [kv_keys r]
    obtain ⟨_, _, _, _, _, _, _, _, hn⟩ := dd
    exact hn
  refine wpAny_bind (wpAny_standAt (wpAny_pure ?_))
  exact wpAny_mono (d_merge I4 h2p h2b ne2 hz fun s' I5 => ⟨.ref s.heap.objs.size, _, I5, rfl, qq nm⟩) (fun _ _ z => z) fun _ _ z => z
end
end Sl

namespace Sl
open PySem PySem.Spec PyProof.Rows L2
theorem valV_none {kvs : List (Key × V)} {k : Key} (h : k ∉ kvs.map (·.1)) : valV kvs k = none := by
  induction kvs with
  | nil => rfl
  | cons p r ih =>
    rw [List.map_cons] at h
    rw [valV_neg fun z => h (by rw [z]; exact List.mem_cons_self)]
    exact ih fun z => h (List.mem_cons_of_mem _ z)
theorem valV_merge (k : Key) : ∀ (more kvs : List (Key × V)), (more.map (·.1)).Nodup → valV (mergeK kvs more) k = match valV more k with | some v => some v | none => valV kvs k
  | [], kvs, _ => rfl
  | m :: rest, kvs, h => by
    rw [List.map_cons] at h
    obtain ⟨h1, h2⟩ := List.nodup_cons.mp h
    show valV (mergeK (putK kvs m.1 m.2) rest) k = _
    rw [valV_merge k rest _ h2, valV_put]
    by_cases e : k = m.1
    · subst e
      rw [valV_none h1, if_pos rfl, valV_pos rfl]
    · rw [if_neg e, valV_neg fun z => e z.symm]
end Sl

set_option Elab.async false
set_option linter.all false
set_option maxRecDepth 100000
set_option maxHeartbeats 400000
/-! ## first_walk -/
namespace Sl
open PySem PySem.Spec PyProof.Rows L2
abbrev sWalk : Stmt := topT 26
theorem scWalk : FnScope ["inner", "root", "met", "waiting", "number"] ["inner", "root"] (defScope sWalk) := ⟨rfl, rfl, rfl, by decide +kernel, rfl, by decide +kernel, by decide +kernel⟩
def iL (l : List Nat) : List V := l.map fun i => V.int (i : Nat)
/-- the dict that holds these numbers -/
def kvI (m : List Nat) : List (Key × V) := m.map fun i => (Sum.inl ((i : Nat) : Int), V.bl true)
theorem kvI_keys (m : List Nat) : (kvI m).map (·.1) = m.map fun i => Sum.inl ((i : Nat) : Int) := by
  unfold kvI
  rw [List.map_map]
  rfl
theorem kvI_len (m : List Nat) : (kvI m).length = m.length := List.length_map ..
theorem kvI_none {m : List Nat} {i : Nat} (h : i ∉ m) : valV (kvI m) (Sum.inl ((i : Nat) : Int)) = none := valV_none fun z => by
  rw [kvI_keys] at z
  obtain ⟨j, hj, e⟩ := List.mem_map.mp z
  have : j = i := Int.ofNat.inj (Sum.inl.inj e)
  exact h (this ▸ hj)
theorem kvI_some {i : Nat} : ∀ {m : List Nat}, i ∈ m → valV (kvI m) (Sum.inl ((i : Nat) : Int)) = some (.bl true)
  | a :: m, h => by
    by_cases e : a = i
    · subst e
      exact valV_pos (p := (Sum.inl ((a : Nat) : Int), V.bl true)) (r := kvI m) rfl
    · have h2 : i ∈ m := (List.mem_cons.mp h).resolve_left fun z => e z.symm
      refine (valV_neg (p := (Sum.inl ((a : Nat) : Int), V.bl true)) (r := kvI m) fun z => e (Int.ofNat.inj (Sum.inl.inj z))).trans (kvI_some h2)
theorem kvI_put {m : List Nat} {i : Nat} (h : i ∉ m) : putK (kvI m) (Sum.inl ((i : Nat) : Int)) (.bl true) = kvI (m ++ [i]) := by
  rw [putK_new _ (kvI_none h)]
  unfold kvI
  rw [List.map_append]
  rfl
theorem kvI_get {H : Hp} {a : Addr} {m : List Nat} (i : Nat) (e : H a = some (.dK (kvI m))) : ∃ o, DGet H a (.int (i : Nat)) o ∧ o.isSome = decide (i ∈ m) := by
  refine ⟨_, DGet.k (k := Sum.inl ((i : Nat) : Int)) e, ?_⟩
  by_cases h : i ∈ m
  · rw [kvI_some h, decide_eq_true h]
    rfl
  · rw [kvI_none h, decide_eq_false h]
    rfl
/-- a walk's sizes -/
theorem nd_len' {l : List Nat} {n : Nat} (nd : l.Nodup) (lt : ∀ a ∈ l, a < n) : l.length ≤ n := by
  have : ∀ {l m : List Nat}, l.Nodup → (∀ x ∈ l, x ∈ m) → l.length ≤ m.length := fun {l} => by
    induction l with
    | nil => exact fun _ _ => Nat.zero_le _
    | cons a l ih =>
      intro m h s
      have ⟨h1, h2⟩ := List.nodup_cons.mp h
      have am := s a List.mem_cons_self
      have z := ih (m := m.erase a) h2 fun x hx => (List.mem_erase_of_ne (fun z : x = a => h1 (z ▸ hx))).mpr (s x (List.mem_cons_of_mem _ hx))
      rw [List.length_erase_of_mem am] at z
      have : 0 < m.length := List.length_pos_of_mem am
      rw [List.length_cons]
      omega
  have z := this (m := List.range n) nd fun x hx => List.mem_range.mpr (lt x hx)
  rwa [List.length_range] at z
section
variable {P : Program} {w : World} {K : PySem.W.Frag} {mg : Str → Option Value} {base : Heap}
/-- lists of numbers below n, three at most -/
def KsOk (ks : List (List Nat)) : Prop := ∀ c ∈ ks, c.length ≤ 3 ∧ ∀ a ∈ c, a < ks.length
def ksF (ks : List (List Nat)) (i : Nat) : List Nat := ks.getD i []
theorem ksF_lt {ks : List (List Nat)} (ok : KsOk ks) (i : Nat) : (ksF ks i).length ≤ 3 ∧ ∀ a ∈ ksF ks i, a < ks.length := by
  unfold ksF
  rw [List.getD_eq_getElem?_getD]
  cases h : ks[i]? with
  | none => exact ⟨Nat.zero_le _, fun a ha => by cases ha⟩
  | some c => exact ok c (List.mem_of_getElem? h)
def spWalk (K : PySem.W.Frag) : Sp := fun vs H Q _ => ∃ (a : Addr) (xs : List V) (ks : List (List Nat)) (r : Nat), vs = [.ref a, .int (r : Nat)] ∧ SqL K H a xs ∧ RddAll K H xs (ks.map fun c => .tup (iD c)) ∧ KsOk ks ∧ r < ks.length ∧ ks.length ≤ 4000 ∧
  ∀ o p H', FW (ksF ks) [] [r] o → o.Nodup → (∀ i ∈ o, i < ks.length) → Same H H' → H p = none → H' p = some (.lst (iL o)) → Q (.ref p) H'
theorem ok_walk {f : Addr} {fd : FuncData} (F : Fun K "first_walk" "first_walk" sWalk f fd) (B : Bt mg) : FnOk P w K mg base CX0 1 f fd ["inner", "root"] (spWalk K) := by
  refine F.ok scWalk (fun vs H Q E h => ?_) (fun cdv A outer s H vs Q E hr h => ?_)
  · obtain ⟨a, xs, ks, r, rfl, _⟩ := h
    rfl
  · obtain ⟨a, xs, ks, r, rfl, ha, hx, ok, hlt, hn, q⟩ := h
    have hu := hu_of hr
    have sl := sizeLine_eq
    --D
    refine ⟨_, (pss_cons (ps_set (i := 2) scWalk.nd rfl (Or.inl rfl) pe_dnewK)
        (pss_cons (ps_set (i := 3) scWalk.nd rfl (Or.inl rfl) (pe_lst (pa_cons (pv 1) pa_nil)))
        (pss_cons (ps_while PassesOwn.never (pt_truth (pv 3) (by intro _; rfl))
        (pss_cons (ps_set (i := 4) scWalk.nd rfl (Or.inl rfl) (pe_bm0 PySem.F.plainAttrs_list PySem.F.slot_list_pop PySem.F.type_list_pop mt_pop (pv 3)))
        (pss_one (ps_if (pt_cmp (pc_dnotin hu (pv 4) (pv 2)))
          (pss_cons (ps_asg pe_bl (pg_sub (pv 2) (pv 4) (set_dict hu)))
        (pss_one (ps_expr (pe_bm PySem.F.plainAttrs_list PySem.F.slot_list_extend PySem.F.type_list_extend mt_extendT (pv 3) (pa_cons (pe_revTu (pe_ix ix_list (pv 0) (pv 4) (fun _ _ => rfl))) pa_nil))))) pss_nil))))
        (pss_one (ps_ret (pe_callTy (call_list_dK rfl) (by rfl) B.list (by decide +kernel) (pa_cons (pv 2) pa_nil))))))), ?_⟩
    --E
    have hnone : ∀ {G : Hp} {b : Addr}, Same H G → G b = none → H b = none := fun {G b} s n => by
      cases e : H b with
      | none => rfl
      | some o =>
        rw [s _ _ e] at n
        cases n
    refine fun mt nm => ?_
    have s1 := Same.new (o := .dK []) nm
    have hm1 : (upd H mt (.dK [])) mt = some (.dK (kvI [])) := upd_same
    generalize upd H mt (.dK []) = H1 at s1 hm1 ⊢
    refine ⟨_, rfl, (by show 1 ≤ sizeLine; omega), fun w0 nw => ?_⟩
    have mw : mt ≠ w0 := ne_of_none hm1 nw
    have nw0 := hnone s1 nw
    have s2 := Same.new (o := .lst [V.int (r : Nat)]) nw
    have hw2 : (upd H1 w0 (.lst [V.int (r : Nat)])) w0 = some (.lst (iL [r].reverse)) := upd_same
    have hm2 := s2 _ _ hm1
    have s12 := s1.trans s2
    generalize upd H1 w0 (.lst [V.int (r : Nat)]) = H2 at s12 hm2 hw2 ⊢
    refine ⟨fun μ σ' G => ∃ (m st : List Nat) (g : Option V), μ = 4 * (ks.length - m.length) + st.length ∧ σ' = [some (.ref a), some (.int (r : Nat)), some (.ref mt), some (.ref w0), g] ∧ Same H G ∧ G mt = some (.dK (kvI m)) ∧ G w0 = some (.lst (iL st.reverse)) ∧ m.Nodup ∧ (∀ i ∈ m, i < ks.length) ∧ (∀ i ∈ st, i < ks.length) ∧ st.length ≤ 3 * m.length + 1 ∧ ∀ o, FW (ksF ks) m st o → FW (ksF ks) [] [r] o,
      ⟨_, [], [r], none, rfl, rfl, s12, hm2, hw2, .nil, (by simp), (fun i hi => by rw [List.mem_singleton.mp hi]; exact hlt), (by simp), fun o h => h⟩, ?_⟩
    rintro μ σ' G ⟨m, st, g, rfl, rfl, sG, hm, hw, ndm, ltm, lts, l3, fw⟩
    have lm := nd_len' ndm ltm
    refine ⟨.ref w0, rfl, !(iL st.reverse).isEmpty, .inl ⟨_, SqL.of hw, rfl⟩, ?_⟩
    cases st with
    | nil =>
      refine iteF ⟨_, rfl, mt, _, rfl, hm, fun p np => ?_⟩
      refine q m p _ (fw m .nil) ndm ltm (sG.trans (Same.new np)) (hnone sG np) ?_
      have e : (kvI m).map (fun kv => kV kv.1) = iL m := by
        unfold kvI iL
        rw [List.map_map]
        rfl
      rw [e]
      exact upd_same
    | cons s st =>
      have es : iL (s :: st).reverse = iL st.reverse ++ [V.int (s : Nat)] := by
        unfold iL
        rw [List.reverse_cons, List.map_append]
        rfl
      rw [es] at hw ⊢
      have hs := lts s List.mem_cons_self
      rw [show (!(iL st.reverse ++ [V.int (s : Nat)]).isEmpty) = true by simp]
      refine iteT ⟨fun σ2 G2 => ∃ (m2 st2 : List Nat), 4 * (ks.length - m2.length) + st2.length < 4 * (ks.length - m.length) + (s :: st).length ∧ ∃ g : Option V, σ2 = [some (.ref a), some (.int (r : Nat)), some (.ref mt), some (.ref w0), g] ∧ Same H G2 ∧ G2 mt = some (.dK (kvI m2)) ∧ G2 w0 = some (.lst (iL st2.reverse)) ∧ m2.Nodup ∧ (∀ i ∈ m2, i < ks.length) ∧ (∀ i ∈ st2, i < ks.length) ∧ st2.length ≤ 3 * m2.length + 1 ∧ ∀ o, FW (ksF ks) m2 st2 o → FW (ksF ks) [] [r] o, ?_, ?_⟩
      · rintro σ2 G2 ⟨m2, st2, l2, g2, rest⟩
        exact ⟨_, l2, m2, st2, g2, rfl, rest⟩
      refine ⟨.ref w0, rfl, .inl ⟨rfl, _, SqL.of hw⟩, w0, _, .int (s : Nat), rfl, rfl, hw, by simp, ?_⟩
      rw [List.dropLast_concat]
      have sG1 : Same H (upd G w0 (.lst (iL st.reverse))) := jr_same.put sG nw0
      have hm1' : (upd G w0 (.lst (iL st.reverse))) mt = some (.dK (kvI m)) := by rw [upd_ne mw]; exact hm
      have hw1 : (upd G w0 (.lst (iL st.reverse))) w0 = some (.lst (iL st.reverse)) := upd_same
      generalize upd G w0 (.lst (iL st.reverse)) = G1 at sG1 hm1' hw1 ⊢
      obtain ⟨o, hg, ho⟩ := kvI_get s hm1'
      refine ⟨_, rfl, _, rfl, mt, o, rfl, hg, _, rfl, ?_⟩
      rw [ho]
      by_cases sm : s ∈ m
      · rw [decide_eq_true sm]
        refine iteF ⟨m, st, by rw [List.length_cons]; omega, _, rfl, sG1, hm1', hw1, ndm, ltm, fun i hi => lts i (List.mem_cons_of_mem _ hi), by rw [List.length_cons] at l3; omega, fun o h => fw o (.old sm h)⟩
      · rw [decide_eq_false sm]
        have lmn : m.length < ks.length := by
          have := nd_len' (n := ks.length) (List.nodup_cons.mpr ⟨sm, ndm⟩) fun i hi => by
            rcases List.mem_cons.mp hi with rfl | hi
            · exact hs
            · exact ltm i hi
          rw [List.length_cons] at this
          omega
        refine iteT ⟨_, rfl, _, rfl, mt, _, rfl, DPut.k (k := Sum.inl ((s : Nat) : Int)) hm1' (by rw [kvI_len]; omega), ?_⟩
        rw [kvI_put sm]
        have sG2 : Same H (upd G1 mt (.dK (kvI (m ++ [s])))) := jr_same.put sG1 nm
        have hm2' : (upd G1 mt (.dK (kvI (m ++ [s])))) mt = some (.dK (kvI (m ++ [s]))) := upd_same
        have hw2' : (upd G1 mt (.dK (kvI (m ++ [s])))) w0 = some (.lst (iL st.reverse)) := by rw [upd_ne (Ne.symm mw)]; exact hw1
        generalize upd G1 mt (.dK (kvI (m ++ [s]))) = G2 at sG2 hm2' hw2' ⊢
        obtain ⟨k3, klt⟩ := ksF_lt ok s
        obtain ⟨y, hy, ry⟩ := hx.at (i := s) (d := .tup (iD (ksF ks s))) (by
          rw [List.getElem?_map]
          unfold ksF
          rw [List.getD_eq_getElem?_getD, List.getElem?_eq_getElem hs]
          rfl)
        obtain ⟨b0, zs, rfl, hb, hz, _⟩ := (Rdd.ex (Ex.same sG2) _ ry).tupd'
        have ez := iD_ints hz
        refine ⟨_, rfl, .inl ⟨rfl, _, SqL.of hw2'⟩, .ref a, rfl, _, rfl, a, xs, ((s : Nat) : Int), .ref b0, rfl, rfl, Same.seq sG2 ha, atI_nat hy, b0, zs, rfl, hb, fun p np => ?_⟩
        have s3 := Same.new (o := .tup zs.reverse) np
        have hp3 : (upd G2 p (.tup zs.reverse)) p = some (.tup zs.reverse) := upd_same
        have hm3 := s3 _ _ hm2'
        have hw3 := s3 _ _ hw2'
        have sG3 := sG2.trans s3
        generalize upd G2 p (.tup zs.reverse) = G3 at s3 hp3 hm3 hw3 sG3 ⊢
        have lz : zs.length = (ksF ks s).length := by rw [ez, List.length_map]
        have lst' : (iL st.reverse).length = st.length := by
          unfold iL
          rw [List.length_map, List.length_reverse]
        have e3 : iL st.reverse ++ zs.reverse = iL (ksF ks s ++ st).reverse := by
          unfold iL
          rw [ez, List.reverse_append, List.map_append, List.map_reverse (l := ksF ks s)]
          
        rw [List.length_cons] at l3
        refine ⟨w0, p, _, _, rfl, rfl, hw3, SqT.of hp3, by rw [List.length_reverse]; omega, ?_⟩
        rw [e3]
        refine ⟨m ++ [s], ksF ks s ++ st, by simp only [List.length_append, List.length_cons, List.length_nil]; omega, _, rfl, jr_same.put sG3 nw0, by rw [upd_ne mw]; exact hm3, upd_same, ?_, ?_, ?_, by simp only [List.length_append, List.length_cons, List.length_nil]; omega, fun o h => fw o (.new sm h)⟩
        · exact List.nodup_append.mpr ⟨ndm, by simp, fun x hx y hy => by
            rw [List.mem_singleton.mp hy]
            exact fun z => sm (z ▸ hx)⟩
        · intro i hi
          rcases List.mem_append.mp hi with hi | hi
          · exact ltm i hi
          · rw [List.mem_singleton.mp hi]
            exact hs
        · intro i hi
          rcases List.mem_append.mp hi with hi | hi
          · exact klt i hi
          · exact lts i (List.mem_cons_of_mem _ hi)
end
end Sl

set_option Elab.async false
set_option linter.all false
set_option maxRecDepth 100000
set_option maxHeartbeats 400000
/-! ## len(set(xs)), xs any list of ints -/
namespace Sl
open PySem PySem.Spec PyProof.Rows L2 PySem.W
theorem oss_nd_from : ∀ (l ks : List Int), ks.Nodup → (l.foldl step_dedup ks).Nodup
  | [], ks, h => h
  | a :: l, ks, h => by
    rw [List.foldl_cons]
    refine oss_nd_from l _ ?_
    rw [oss_step]
    split
    · exact h
    · rename_i n
      exact List.nodup_append.mpr ⟨h, by simp, fun x hx y hy => by
        rw [List.mem_singleton.mp hy]
        exact fun z => n (z ▸ hx)⟩
theorem oss_nd (l : List Int) : (ossOf l).Nodup := oss_nd_from l [] List.nodup_nil
theorem nd_len : ∀ {l m : List Int}, l.Nodup → (∀ x ∈ l, x ∈ m) → l.length ≤ m.length
  | [], _, _, _ => Nat.zero_le _
  | a :: l, m, h, s => by
    have ⟨h1, h2⟩ := List.nodup_cons.mp h
    have am := s a List.mem_cons_self
    have := nd_len (l := l) (m := m.erase a) h2 fun x hx => (List.mem_erase_of_ne (fun z : x = a => h1 (z ▸ hx))).mpr (s x (List.mem_cons_of_mem _ hx))
    rw [List.length_erase_of_mem am] at this
    have : 0 < m.length := List.length_pos_of_mem am
    rw [List.length_cons]
    omega
theorem oss_same {l : List Int} (h : l.Nodup) : (ossOf l).length = l.length :=
  Nat.le_antisymm (oss_len l) (nd_len h fun x hx => oss_has.mpr hx)
theorem oss_full : ∀ (l ks : List Int), (l.foldl step_dedup ks).length = ks.length + l.length → l.Nodup ∧ ∀ x ∈ l, x ∉ ks
  | [], _, _ => ⟨List.nodup_nil, fun x h => by cases h⟩
  | a :: l, ks, e => by
    rw [List.foldl_cons, oss_step] at e
    by_cases h : a ∈ ks
    · rw [if_pos h] at e
      have := oss_len_from l ks
      rw [List.length_cons] at e
      omega
    · rw [if_neg h] at e
      obtain ⟨h1, h2⟩ := oss_full l (ks ++ [a]) (by rw [e, List.length_append, List.length_cons, List.length_singleton]; omega)
      refine ⟨List.nodup_cons.mpr ⟨fun z => h2 a z (List.mem_append_right _ (List.mem_singleton.mpr rfl)), h1⟩, fun x hx => ?_⟩
      rcases List.mem_cons.mp hx with rfl | hx
      · exact h
      · exact fun z => h2 x hx (List.mem_append_left _ z)
theorem oss_iff (l : List Int) : (ossOf l).length = l.length ↔ l.Nodup := by
  refine ⟨fun e => (oss_full l [] ?_).1, oss_same⟩
  show (ossOf l).length = _
  rw [e]
  simp
def tLenSetA (K : PySem.W.Frag) (ta : TE) : TE := fun σ H Q => ta σ H fun x H1 => ∃ (l : Addr) (ns : List Int), x = .ref l ∧ SqL K H1 l (ns.map V.int) ∧ ns.length ≤ 4000 ∧ Q (.int ((ossOf ns).length : Nat)) H1
theorem pe_lenSetA {X : Cx} {a : Expr} {ta : TE} {p p2 q pos : Pos} (hg : Gl X "len") (hm : X.mg "len" = none) (hg2 : Gl X "set") (hm2 : X.mg "set" = none) (ha : PE X a ta) (hc : X.calm = true := by rfl)
    (na : starEach [a] X.env = (false, eval a X.env) :: starEach [] X.env := by rfl) : PE X (.Call (.Name "len" p) [.Call (.Name "set" p2) [a] [] q] [] pos) (tLenSetA X.K ta) := by
  refine ⟨fun pins s σ H Q I h => Call_ (ld_blt I hg hm boot_len (callWith_builtin1 (args_cons (Call_ (ld_blt I hg2 hm2 boot_set (callWith_type1 (args_cons (thn (ha.run pins s σ H _ I h) fun v s1 ⟨x, H1, I1, r1, q1⟩ => args_nil ?_) na) na rfl))) rfl) rfl rfl))⟩
  obtain ⟨l, ns, rfl, hq, hl, q1⟩ := q1
  cases r1
  obtain ⟨its, r, pl, _⟩ := I1.list hq
  have z : its.toArray.size = ns.length := by
    have := r.length
    rw [List.length_map] at this
    rw [List.size_toArray]
    omega
  refine call_set_list (I1.ok.hd hc) pl.isList (by simpa using RZ.intsAre_vals r) (by unfold scanBound; omega) fun h' tk hS hk => args_nil ?_
  rw [z, oss_met] at hS
  obtain ⟨o, es, ep, t, ho, hex, hd, _, _, _, hf, hn⟩ := hS
  have I2 : Inv X pins σ H1 { s1 with heap := h', toks := tk } := I1.kept fun b o e => hk b o (Heap.lt_size e) e
  exact call_len_set ho hex hd hf (by rw [hn]; have := oss_len ns; omega) ⟨.int (ossOf ns).length, H1, I2.tok _, ⟨_, by rw [hn]⟩, q1⟩
end Sl

set_option Elab.async false
set_option linter.all false
set_option maxRecDepth 100000
set_option maxHeartbeats 400000
/-! ## are_nodes -/
namespace Sl
open PySem PySem.Spec PyProof.Rows L2
theorem all_bls {α : Type} (l : List α) : ((l.map fun _ => true)).all id = true := List.all_eq_true.mpr fun b hb => by
  obtain ⟨_, _, rfl⟩ := List.mem_map.mp hb
  rfl
theorem fm_al2 {α : Type} (l : List α) (f : α → V) : (l.map fun x => some (f x)).filterMap id = l.map f := by
  induction l with
  | nil => rfl
  | cons a l ih =>
    rw [List.map_cons, List.map_cons, ← ih]
    rfl
section
variable {P : Program} {w : World} {K : PySem.W.Frag} {mg : Str → Option Value} {base : Heap} {fWh fBe fNm fKd fWk fRw fPo fNd fAn : Addr} {dWh dBe dNm dKd dWk dRw dPo dNd dAn : FuncData}
def spRow (K : PySem.W.Frag) : Sp := fun vs H Q _ => ∃ (v : V) (cs : List Nat) (n : Nat), vs = [v, .int n] ∧ Rdd K H v (.tup (iD cs)) ∧ cs.length ≤ 3 ∧ (∀ c ∈ cs, c < n) ∧ ∀ H', Same H H' → Q (.bl true) H'
theorem ok_row (N : Gn K mg fWh fBe fNm fKd fWk fRw fPo fNd fAn dWh dBe dNm dKd dWk dRw dPo dNd dAn) (U : Tops K mg) (Bi' : Bi mg) (B : Bt mg) : FnOk P w K mg base CX0 3 fRw dRw ["value", "many"] (spRow K) := by
  have GB : FnOk P w K mg base CX0 2 fBe dBe ["value", "limit"] (spBelow K) := ok_below N.FBe N.FWh N.bWh N.gWh Bi'
  obtain ⟨t3, g3⟩ := U.terms
  refine N.FRw.ok scRow (fun vs H Q E h => ?_) (fun cdv A outer s H vs Q E hr h => ?_)
  · obtain ⟨v, cs, n, rfl, _⟩ := h
    rfl
  · obtain ⟨v, cs, n, rfl, hv, h3, hc, q⟩ := h
    have sl := sizeLine_eq
    --DR
    refine ⟨_, (pss_cons (ps_if (PW.pt (pw_or (pt_not (pt_val (pe_callB call_isi (by rfl) B.isi (by decide +kernel) (pa_cons (pv 0) (pa_cons (pe_bltn (v := .ty "tuple") (by rfl) B.tuple (by decide +kernel) rfl) pa_nil))))) (pw_or1 (pt_cmpR op_gt (pe_callB call_len_seq (by rfl) B.len PySem.boot_len (pa_cons (pv 0) pa_nil)) (pe_glob (v := .int 3) (by rfl) g3 ⟨_, rfl⟩) (nomark _)))))
          (pss_one (ps_ret pe_bl)) pss_nil)
        (pss_one (ps_ret (pe_callB (cr_all rfl) (by rfl) B.all (by decide +kernel) (pa_cons (pe_lc (own := [("child", 2)]) (g := gName 2) (tt := tYes) (te := tCall (spBelow K) [] E0 (tCons (tVar 2) (tCons (tVar 1) tNil))) rfl scRow.nd (pi_tup (pv 0)) (blkOk_by (own := [("child", 2)]) (N := ["value", "many", "child"]) (sc := defScope sRow) (by decide +kernel)) (fun _ _ _ _ _ => pg_name (i := 2) scRow.nd rfl (Or.inl rfl)) (fun _ _ _ _ _ => pts_nil) (fun _ _ _ _ _ => by exact (pe_call GB hr (by rfl) N.gBe N.FBe.kp N.bBe .nil pass0 (pa_cons (pv 2) (pa_cons (pv 1) pa_nil))))) pa_nil))))), ?_⟩
    --ER
    have hty := hv.ty
    obtain ⟨a0, xs, rfl, hs, hx, _⟩ := hv.tupd'
    have ex := iD_ints hx
    have lx : xs.length = cs.length := by rw [ex, List.length_map]
    refine ⟨_, rfl, V.ref a0, .ty "tuple", _, _, isA "tuple" (.tup (iD cs)), rfl, .ty _, hty, kit_isA (by decide +kernel), _, rfl, ?_⟩
    rw [isA_tuple]
    refine iteF ⟨_, rfl, a0, xs, rfl, .inr hs, _, _, rfl, rfl, _, rfl, ?_⟩
    rw [decide_eq_false (by omega)]
    refine iteF ⟨_, rfl, a0, rfl, ⟨_, hs⟩, fun D0 nD => ?_⟩
    refine lcT (cs.map fun _ => some (V.bl true)) (by rw [List.length_map]; omega) (by omega) hs nD ?_ ?_
    · intro i y H2 Q2 Z2 hy s2 hQ _
      rw [ex, List.getElem?_map] at hy
      obtain ⟨c, hcc, rfl⟩ := Option.map_eq_some_iff.mp hy
      have hlt := hc c (List.mem_of_getElem? hcc)
      refine ⟨rfl, ?_⟩
      refine iteT (B := Z2 H2) ⟨_, rfl, _, rfl, V.int (c : Nat), .int (c : Nat), (n : Int), rfl, .int _, ?_⟩
      rw [show dBelow (n : Int) (.int (c : Nat)) = true by
        show (decide ((0 : Int) ≤ (c : Nat)) && decide (((c : Nat) : Int) < n)) = true
        rw [decide_eq_true (by omega), decide_eq_true (by omega)]
        rfl]
      exact hQ _ H2 (by rw [List.getElem?_map, hcc]; rfl) (Same.refl _)
    · intro H2 s2 hD2
      rw [fm_al2, show cs.map (fun _ => V.bl true) = (cs.map fun _ => true).map V.bl by rw [List.map_map]; rfl] at hD2
      refine ⟨D0, _, rfl, SqL.of hD2, ?_⟩
      rw [all_bls]
      exact q H2 s2
/-- the numbers in a node lie below n, and its name is a name -/
def Rng (n : Nat) : GN → Prop
  | .W x cs => nmOk x = true ∧ cs.length ≤ 3 ∧ ∀ c ∈ cs, c < n
  | .F c => c < n
  | .V f => f < n
def ndB (ns : List GN) : GN → Bool
  | .V f => match ns[f]? with
    | some g => g.isF
    | none => false
  | _ => true
def kindB (g : GN) (k : Str) : Bool := match g with
  | .W _ _ => false
  | .F _ => decide (("fun" : Str) = k)
  | .V _ => decide (("var" : Str) = k)
theorem kb_ff (c : Nat) : kindB (.F c) "fun" = true := by
  unfold kindB
  exact decide_eq_true rfl
theorem kb_vf (f : Nat) : kindB (.V f) "fun" = false := by
  unfold kindB
  exact decide_eq_false (by decide +kernel)
theorem kb_vv (f : Nat) : kindB (.V f) "var" = true := by
  unfold kindB
  exact decide_eq_true rfl
theorem kb_isF (g : GN) : kindB g "fun" = g.isF := by
  cases g with
  | W x cs => rfl
  | F c => exact kb_ff c
  | V f => exact kb_vf f
def spPairOf (K : PySem.W.Frag) : Sp := fun vs H Q _ => ∃ (v : V) (g : GN) (k : Str), vs = [v, .str k] ∧ Rdd K H v (ndD g) ∧ Q (.bl (kindB g k)) H
theorem ok_pairOf (N : Gn K mg fWh fBe fNm fKd fWk fRw fPo fNd fAn dWh dBe dNm dKd dWk dRw dPo dNd dAn) (Bi' : Bi mg) (B : Bt mg) : FnOk P w K mg base CX0 1 fPo dPo ["value", "kind"] (spPairOf K) := by
  refine N.FPo.ok scPairOf (fun vs H Q E h => ?_) (fun cdv A outer s H vs Q E hr h => ?_)
  · obtain ⟨v, g, k, rfl, _⟩ := h
    rfl
  · obtain ⟨v, g, k, rfl, hv, q⟩ := h
    --DP
    refine ⟨_, (pss_one (ps_ret (pe_and (pe_callB call_isi (by rfl) B.isi (by decide +kernel) (pa_cons (pv 0) (pa_cons (pe_bltn (v := .ty "tuple") (by rfl) B.tuple (by decide +kernel) rfl) pa_nil))) (pe_and (pe_cmpR op_eq (pe_callB call_len_seq (by rfl) B.len PySem.boot_len (pa_cons (pv 0) pa_nil)) pe_int (nomark _)) (pe_one (pe_cmpR op_eq (pe_ix ix_tup (pv 0) pe_int (fun _ _ => rfl)) (pv 1) (nomark _))))))), ?_⟩
    --EP
    have hty := hv.ty
    cases g with
    | W x cs =>
      obtain ⟨a0, xs, rfl, hs, hx, _⟩ := hv.tupd'
      obtain ⟨x1, x2, x3, rfl, r1, r2, r3⟩ := hx.trip
      refine ⟨_, rfl, V.ref a0, .ty "tuple", _, _, isA "tuple" (ndD (.W x cs)), rfl, .ty _, hty, kit_isA (by decide +kernel), _, rfl, ?_⟩
      rw [isA_tuple]
      refine iteT ⟨_, rfl, a0, _, rfl, .inr hs, rfl, _, rfl, ?_⟩
      rw [decide_eq_false (show ¬ V.int (([x1, x2, x3] : List V).length : Nat) = V.int 2 from fun z => by cases z)]
      exact iteF q
    | F c =>
      obtain ⟨a0, xs, rfl, hs, hx, _⟩ := hv.tupd'
      obtain ⟨x1, x2, rfl, r1, r2⟩ := hx.pair
      cases r1
      refine ⟨_, rfl, V.ref a0, .ty "tuple", _, _, isA "tuple" (ndD (.F c)), rfl, .ty _, hty, kit_isA (by decide +kernel), _, rfl, ?_⟩
      rw [isA_tuple]
      refine iteT ⟨_, rfl, a0, _, rfl, .inr hs, rfl, _, rfl, ?_⟩
      rw [decide_eq_true (show V.int (([V.str "fun", x2] : List V).length : Nat) = V.int 2 from rfl)]
      refine iteT ⟨_, rfl, a0, _, (0 : Int), _, rfl, rfl, hs, atI_nat (j := 0) rfl, _, rfl, rfl, ?_⟩
      rw [str_dec]
      exact q
    | V f =>
      obtain ⟨a0, xs, rfl, hs, hx, _⟩ := hv.tupd'
      obtain ⟨x1, x2, rfl, r1, r2⟩ := hx.pair
      cases r1
      refine ⟨_, rfl, V.ref a0, .ty "tuple", _, _, isA "tuple" (ndD (.V f)), rfl, .ty _, hty, kit_isA (by decide +kernel), _, rfl, ?_⟩
      rw [isA_tuple]
      refine iteT ⟨_, rfl, a0, _, rfl, .inr hs, rfl, _, rfl, ?_⟩
      rw [decide_eq_true (show V.int (([V.str "var", x2] : List V).length : Nat) = V.int 2 from rfl)]
      refine iteT ⟨_, rfl, a0, _, (0 : Int), _, rfl, rfl, hs, atI_nat (j := 0) rfl, _, rfl, rfl, ?_⟩
      rw [str_dec]
      exact q
def spIsNd (K : PySem.W.Frag) : Sp := fun vs H Q _ => ∃ (v u : V) (g : GN) (ns : List GN), vs = [v, u] ∧ Rdd K H v (ndD g) ∧ Rdd K H u (.tup (ns.map ndD)) ∧ Rng ns.length g ∧ ns.length ≤ 100000 ∧ ∀ H', Same H H' → Q (.bl (ndB ns g)) H'
theorem ok_isNd (N : Gn K mg fWh fBe fNm fKd fWk fRw fPo fNd fAn dWh dBe dNm dKd dWk dRw dPo dNd dAn) (U : Tops K mg) (Bi' : Bi mg) (B : Bt mg) : FnOk P w K mg base CX0 4 fNd dNd ["value", "nodes"] (spIsNd K) := by
  have GB : FnOk P w K mg base CX0 2 fBe dBe ["value", "limit"] (spBelow K) := ok_below N.FBe N.FWh N.bWh N.gWh Bi'
  have GN' : FnOk P w K mg base CX0 1 fNm dNm ["value"] (spName K) := ok_name N.FNm U B
  have GR : FnOk P w K mg base CX0 3 fRw dRw ["value", "many"] (spRow K) := ok_row N U Bi' B
  have GP : FnOk P w K mg base CX0 1 fPo dPo ["value", "kind"] (spPairOf K) := ok_pairOf N Bi' B
  refine N.FNd.ok scIsNd (fun vs H Q E h => ?_) (fun cdv A outer s H vs Q E hr h => ?_)
  · obtain ⟨v, u, g, ns, rfl, _⟩ := h
    rfl
  · obtain ⟨v, u, g, ns, rfl, hv, hu, hg, hn, q⟩ := h
    have h1 := hr.mono (by decide : 1 ≤ 3)
    have h2 := hr.mono (by decide : 2 ≤ 3)
    --DN
    refine ⟨_, (pss_cons (ps_if (PW.pt (pw_and (pt_val (pe_callB call_isi (by rfl) B.isi (by decide +kernel) (pa_cons (pv 0) (pa_cons (pe_bltn (v := .ty "tuple") (by rfl) B.tuple (by decide +kernel) rfl) pa_nil)))) (pw_and (pt_cmpR op_eq (pe_callB call_len_seq (by rfl) B.len PySem.boot_len (pa_cons (pv 0) pa_nil)) pe_int (nomark _)) (pw_and1 (pt_cmpR op_eq (pe_ix ix_tup (pv 0) pe_int (fun _ _ => rfl)) pe_str (nomark _))))))
          (pss_one (ps_ret (pe_and (pe_call GN' h1 (by rfl) N.gNm N.FNm.kp N.bNm .nil pass0 (pa_cons (pe_ix ix_tup (pv 0) pe_int (fun _ _ => rfl)) pa_nil)) (pe_one (pe_call GR hr (by rfl) N.gRw N.FRw.kp N.bRw .nil pass0 (pa_cons (pe_ix ix_tup (pv 0) pe_int (fun _ _ => rfl)) (pa_cons (pe_callB call_len_seq (by rfl) B.len PySem.boot_len (pa_cons (pv 1) pa_nil)) pa_nil))))))) pss_nil)
        (pss_cons (ps_if (PW.pt (pw_and (pt_not (pt_val (pe_call GP h1 (by rfl) N.gPo N.FPo.kp N.bPo .nil pass0 (pa_cons (pv 0) (pa_cons pe_str pa_nil))))) (pw_and1 (pt_not (pt_val (pe_call GP h1 (by rfl) N.gPo N.FPo.kp N.bPo .nil pass0 (pa_cons (pv 0) (pa_cons pe_str pa_nil))))))))
          (pss_one (ps_ret pe_bl)) pss_nil)
        (pss_cons (ps_if (pt_not (pt_val (pe_call GB h2 (by rfl) N.gBe N.FBe.kp N.bBe .nil pass0 (pa_cons (pe_ix ix_tup (pv 0) pe_int (fun _ _ => rfl)) (pa_cons (pe_callB call_len_seq (by rfl) B.len PySem.boot_len (pa_cons (pv 1) pa_nil)) pa_nil)))))
          (pss_one (ps_ret pe_bl)) pss_nil)
        (pss_one (ps_ret (pe_or (pe_cmpR op_eq (pe_ix ix_tup (pv 0) pe_int (fun _ _ => rfl)) pe_str (nomark _)) (pe_one (pe_call GP h1 (by rfl) N.gPo N.FPo.kp N.bPo .nil pass0 (pa_cons (pe_ix ix_tup (pv 1) (pe_ix ix_tup (pv 0) pe_int (fun _ _ => rfl)) (fun _ _ => rfl)) (pa_cons pe_str pa_nil)))))))))), ?_⟩
    --EN
    have hty := hv.ty
    obtain ⟨b0, us, rfl, hsu, hxu, _⟩ := hu.tupd'
    have lu : us.length = ns.length := by rw [hxu.length, List.length_map]
    have below : ∀ c : Nat, c < ns.length → dBelow ((us.length : Nat) : Int) (.int (c : Nat)) = true := fun c hc => by
      show (decide ((0 : Int) ≤ (c : Nat)) && decide (((c : Nat) : Int) < (us.length : Nat))) = true
      rw [decide_eq_true (by omega), decide_eq_true (by omega)]
      rfl
    cases g with
    | W x cs =>
      have hv' := hv
      obtain ⟨a0, xs, rfl, hs, hx, _⟩ := hv'.tupd'
      obtain ⟨x1, x2, x3, rfl, r1, r2, r3⟩ := hx.trip
      cases r1
      cases r2
      refine ⟨_, rfl, V.ref a0, .ty "tuple", _, _, isA "tuple" (ndD (.W x cs)), rfl, .ty _, hty, kit_isA (by decide +kernel), _, rfl, ?_⟩
      rw [isA_tuple]
      refine iteT ⟨_, rfl, a0, _, rfl, .inr hs, rfl, _, rfl, ?_⟩
      rw [decide_eq_true (show V.int (([V.str "word", .str x, x3] : List V).length : Nat) = V.int 3 from rfl)]
      refine iteT ⟨_, rfl, a0, _, (0 : Int), _, rfl, rfl, hs, atI_nat (j := 0) rfl, rfl, _, rfl, ?_⟩
      rw [str_dec, decide_eq_true rfl]
      refine iteT ⟨_, rfl, a0, _, (1 : Int), _, rfl, rfl, hs, atI_nat (j := 1) rfl, _, .str x, rfl, .str x, decide_eq_true (by have := nm_small hg.1; omega), ?_⟩
      rw [show (D.str x).isName = nmOk x from rfl, hg.1]
      refine ⟨_, rfl, iteT ⟨_, rfl, a0, _, (2 : Int), _, rfl, rfl, hs, atI_nat (j := 2) rfl, _, rfl, b0, us, rfl, .inr hsu, x3, cs, us.length, rfl, r3, hg.2.1, fun c hc => by rw [lu]; exact hg.2.2 c hc, q⟩⟩
    | F c =>
      have hv' := hv
      obtain ⟨a0, xs, rfl, hs, hx, _⟩ := hv'.tupd'
      obtain ⟨x1, x2, rfl, r1, r2⟩ := hx.pair
      cases r1
      cases r2
      refine ⟨_, rfl, V.ref a0, .ty "tuple", _, _, isA "tuple" (ndD (.F c)), rfl, .ty _, hty, kit_isA (by decide +kernel), _, rfl, ?_⟩
      rw [isA_tuple]
      refine iteT ⟨_, rfl, a0, _, rfl, .inr hs, rfl, _, rfl, ?_⟩
      rw [decide_eq_false (show ¬ V.int (([V.str "fun", .int (c : Nat)] : List V).length : Nat) = V.int 3 from fun z => by cases z)]
      refine iteF ⟨_, rfl, _, .F c, "fun", rfl, hv, _, rfl, ?_⟩
      rw [kb_ff]
      refine iteF ⟨_, rfl, a0, _, (1 : Int), _, rfl, rfl, hs, atI_nat (j := 1) rfl, _, rfl, b0, us, rfl, .inr hsu, V.int (c : Nat), .int (c : Nat), ((us.length : Nat) : Int), rfl, .int _, _, rfl, ?_⟩
      rw [below c hg]
      refine iteF ⟨_, rfl, a0, _, (0 : Int), _, rfl, rfl, hs, atI_nat (j := 0) rfl, rfl, _, rfl, ?_⟩
      rw [str_dec, decide_eq_true rfl]
      exact iteT (q H (Same.refl _))
    | V f =>
      have hv' := hv
      obtain ⟨a0, xs, rfl, hs, hx, _⟩ := hv'.tupd'
      obtain ⟨x1, x2, rfl, r1, r2⟩ := hx.pair
      cases r1
      cases r2
      have hlt : f < ns.length := hg
      have hc : ns[f]? = some ns[f] := List.getElem?_eq_getElem hlt
      obtain ⟨yf, hyf, ryf⟩ := hxu.at (i := f) (d := ndD ns[f]) (by rw [List.getElem?_map, hc]; rfl)
      have eb : ndB ns (.V f) = ns[f].isF := by
        unfold ndB
        dsimp only
        rw [hc]
      refine ⟨_, rfl, V.ref a0, .ty "tuple", _, _, isA "tuple" (ndD (.V f)), rfl, .ty _, hty, kit_isA (by decide +kernel), _, rfl, ?_⟩
      rw [isA_tuple]
      refine iteT ⟨_, rfl, a0, _, rfl, .inr hs, rfl, _, rfl, ?_⟩
      rw [decide_eq_false (show ¬ V.int (([V.str "var", .int (f : Nat)] : List V).length : Nat) = V.int 3 from fun z => by cases z)]
      refine iteF ⟨_, rfl, _, .V f, "fun", rfl, hv, _, rfl, ?_⟩
      rw [kb_vf]
      refine iteT ⟨_, rfl, _, .V f, "var", rfl, hv, _, rfl, ?_⟩
      rw [kb_vv]
      refine iteF ⟨_, rfl, a0, _, (1 : Int), _, rfl, rfl, hs, atI_nat (j := 1) rfl, _, rfl, b0, us, rfl, .inr hsu, V.int (f : Nat), .int (f : Nat), ((us.length : Nat) : Int), rfl, .int _, _, rfl, ?_⟩
      rw [below f hlt]
      refine iteF ⟨_, rfl, a0, _, (0 : Int), _, rfl, rfl, hs, atI_nat (j := 0) rfl, rfl, _, rfl, ?_⟩
      rw [str_dec, decide_eq_false (by decide +kernel)]
      refine iteF ⟨_, rfl, _, rfl, a0, _, (1 : Int), _, rfl, rfl, hs, atI_nat (j := 1) rfl, b0, us, (f : Int), yf, rfl, rfl, hsu, atI_nat hyf, _, ns[f], "fun", rfl, ryf, ?_⟩
      rw [kb_isF, ← eb]
      exact q H (Same.refl _)
def arB (ns : List GN) : Bool := ns.all (ndB ns) && decide (own ns).Nodup
theorem fm_own (ns : List GN) : (ns.map fun g => (g.own).map fun f => V.int (f : Nat)).filterMap id = (own ns).map fun f => V.int (f : Nat) := by
  unfold own
  induction ns with
  | nil => rfl
  | cons g ns ih =>
    rw [List.map_cons, List.filterMap_cons, List.filterMap_cons]
    cases g with
    | W x cs => exact ih
    | F c => exact ih
    | V f =>
      show V.int (f : Nat) :: _ = _ :: _
      rw [ih]
theorem all_ids {α : Type} (l : List α) (p : α → Bool) : (l.map p).all id = l.all p := by
  rw [List.all_map]
  rfl
theorem own_le (ns : List GN) : (own ns).length ≤ ns.length := List.length_filterMap_le ..
theorem nd_ints (l : List Nat) : (l.map fun f => ((f : Nat) : Int)).Nodup ↔ l.Nodup := by
  induction l with
  | nil => exact ⟨fun _ => List.nodup_nil, fun _ => List.nodup_nil⟩
  | cons a l ih =>
    rw [List.map_cons, List.nodup_cons, List.nodup_cons, ih]
    refine and_congr (not_congr ⟨fun h => ?_, fun h => List.mem_map.mpr ⟨a, h, rfl⟩⟩) Iff.rfl
    obtain ⟨b, hb, e⟩ := List.mem_map.mp h
    have : b = a := Int.ofNat.inj e
    rw [← this]
    exact hb
def spAreN (K : PySem.W.Frag) : Sp := fun vs H Q _ => ∃ (u : V) (ns : List GN), vs = [u] ∧ Rdd K H u (.tup (ns.map ndD)) ∧ 0 < ns.length ∧ (∀ g ∈ ns, Rng ns.length g) ∧ ns.length ≤ 4000 ∧ ∀ H', Same H H' → Q (.bl (arB ns)) H'
theorem ok_areN (N : Gn K mg fWh fBe fNm fKd fWk fRw fPo fNd fAn dWh dBe dNm dKd dWk dRw dPo dNd dAn) (U : Tops K mg) (Bi' : Bi mg) (B : Bt mg) : FnOk P w K mg base CX0 5 fAn dAn ["values"] (spAreN K) := by
  have GI : FnOk P w K mg base CX0 4 fNd dNd ["value", "nodes"] (spIsNd K) := ok_isNd N U Bi' B
  refine N.FAn.ok scAreN (fun vs H Q E h => ?_) (fun cdv A outer s H vs Q E hr h => ?_)
  · obtain ⟨u, ns, rfl, _⟩ := h
    rfl
  · obtain ⟨u, ns, rfl, hu, hp0, hg, hn, q⟩ := h
    --DA
    refine ⟨_, (pss_cons (ps_if (PW.pt (pw_or (pt_cmpR op_eq (pe_callB call_len_seq (by rfl) B.len PySem.boot_len (pa_cons (pv 0) pa_nil)) pe_int (nomark _)) (pw_or1 (pt_not (pt_val (pe_callB (cr_all rfl) (by rfl) B.all (by decide +kernel) (pa_cons (pe_lc (own := [("value", 2)]) (g := gName 2) (tt := tYes) (te := tCall (spIsNd K) [] E0 (tCons (tVar 2) (tCons (tVar 0) tNil))) rfl scAreN.nd (pi_tup (pv 0)) (blkOk_by (own := [("value", 2)]) (N := ["values", "owners", "value", "node"]) (sc := defScope sAreN) (by decide +kernel)) (fun _ _ _ _ _ => pg_name (i := 2) scAreN.nd rfl (Or.inl rfl)) (fun _ _ _ _ _ => pts_nil) (fun _ _ _ _ _ => by exact (pe_call GI hr (by rfl) N.gNd N.FNd.kp N.bNd .nil pass0 (pa_cons (pv 2) (pa_cons (pv 0) pa_nil))))) pa_nil)))))))
          (pss_one (ps_ret pe_bl)) pss_nil)
        (pss_cons (ps_setLc (i := 1) (own := [("node", 3)]) (g := gName 3) (tt := tTest (tOp rEq (tOp (rIxT K) (tVar 3) (tC (.int 0))) (tC (.str "var")))) (te := tOp (rIxT K) (tVar 3) (tC (.int 1))) rfl scAreN.nd rfl rfl (sw_true rfl rfl rfl (by decide +kernel)) (pi_tup (pv 0)) (blkOk_by (own := [("node", 3)]) (N := ["values", "owners", "value", "node"]) (sc := defScope sAreN) (by decide +kernel)) (fun _ _ _ _ _ => pg_name (i := 3) scAreN.nd rfl (Or.inl rfl)) (fun _ _ _ _ _ => pts_one (by exact (pt_cmpR op_eq (pe_ix ix_tup (pv 3) pe_int (fun _ _ => rfl)) pe_str (nomark _)))) (fun _ _ _ _ _ => by exact (pe_ix ix_tup (pv 3) pe_int (fun _ _ => rfl))))
        (pss_one (ps_ret (pe_cmpR op_eq (pe_lenSetA (by rfl) B.len (by rfl) B.set (pv 1)) (pe_callB call_len_seq (by rfl) B.len PySem.boot_len (pa_cons (pv 1) pa_nil)) (nomark _)))))), ?_⟩
    --EA
    have hu' := hu
    obtain ⟨b0, us, rfl, hsu, hxu, _⟩ := hu'.tupd'
    have lu : us.length = ns.length := by rw [hxu.length, List.length_map]
    refine ⟨_, rfl, b0, us, rfl, .inr hsu, rfl, _, rfl, ?_⟩
    rw [int_dec, decide_eq_false (by omega)]
    refine iteF ⟨_, rfl, b0, rfl, ⟨_, hsu⟩, fun D0 nD => ?_⟩
    refine lcT (ns.map fun g => some (V.bl (ndB ns g))) (by rw [List.length_map]; omega) (by omega) hsu nD ?_ ?_
    · intro i y H2 Q2 Z2 hy s2 hQ _
      obtain ⟨d, hd, ry⟩ := hxu.get hy
      rw [List.getElem?_map] at hd
      obtain ⟨g, hgi, rfl⟩ := Option.map_eq_some_iff.mp hd
      refine ⟨rfl, ?_⟩
      refine iteT (B := Z2 H2) ⟨_, rfl, _, rfl, y, .ref b0, g, ns, rfl, Rdd.ex (Ex.same s2) _ ry, Rdd.ex (Ex.same s2) _ hu, hg g (List.mem_of_getElem? hgi), by omega, fun H3 s3 => ?_⟩
      exact hQ _ H3 (by rw [List.getElem?_map, hgi]; rfl) s3
    · intro H2 s2 hD2
      rw [fm_al2, show ns.map (fun g => V.bl (ndB ns g)) = (ns.map (ndB ns)).map V.bl by rw [List.map_map]; rfl] at hD2
      refine ⟨D0, _, rfl, SqL.of hD2, _, rfl, ?_⟩
      rw [all_ids]
      cases ha : ns.all (ndB ns) with
      | false =>
        have e : arB ns = false := by
          unfold arB
          rw [ha]
          rfl
        rw [e] at q
        exact iteT (q H2 s2)
      | true =>
        have e : arB ns = decide (own ns).Nodup := by
          unfold arB
          rw [ha]
          rfl
        rw [e] at q
        refine iteF ⟨_, rfl, b0, rfl, ⟨_, (Ex.same s2).tup hsu⟩, fun D1 nD1 => ?_⟩
        refine lcT (ns.map fun g => (g.own).map fun f => V.int (f : Nat)) (by rw [List.length_map]; omega) (by omega) ((Ex.same s2).tup hsu) nD1 ?_ ?_
        · intro i y H3 Q2 Z2 hy s3 hQ hZ
          obtain ⟨d, hd, ry⟩ := hxu.get hy
          rw [List.getElem?_map] at hd
          obtain ⟨g, hgi, rfl⟩ := Option.map_eq_some_iff.mp hd
          have ry3 := Rdd.ex (Ex.same s3) _ (Rdd.ex (Ex.same s2) _ ry)
          refine ⟨rfl, ?_⟩
          cases g with
          | W x cs =>
            obtain ⟨a1, xs, rfl, hs, hx, _⟩ := ry3.tupd'
            obtain ⟨x1, x2, x3, rfl, r1, r2, r3⟩ := hx.trip
            cases r1
            refine ⟨_, rfl, a1, _, (0 : Int), _, rfl, rfl, hs, atI_nat (j := 0) rfl, rfl, _, rfl, ?_⟩
            rw [str_dec, decide_eq_false (by decide +kernel)]
            exact iteF (hZ H3 (by rw [List.getElem?_map, hgi]; rfl) (Same.refl _))
          | F c =>
            obtain ⟨a1, xs, rfl, hs, hx, _⟩ := ry3.tupd'
            obtain ⟨x1, x2, rfl, r1, r2⟩ := hx.pair
            cases r1
            refine ⟨_, rfl, a1, _, (0 : Int), _, rfl, rfl, hs, atI_nat (j := 0) rfl, rfl, _, rfl, ?_⟩
            rw [str_dec, decide_eq_false (by decide +kernel)]
            exact iteF (hZ H3 (by rw [List.getElem?_map, hgi]; rfl) (Same.refl _))
          | V f =>
            obtain ⟨a1, xs, rfl, hs, hx, _⟩ := ry3.tupd'
            obtain ⟨x1, x2, rfl, r1, r2⟩ := hx.pair
            cases r1
            cases r2
            refine ⟨_, rfl, a1, _, (0 : Int), _, rfl, rfl, hs, atI_nat (j := 0) rfl, rfl, _, rfl, ?_⟩
            rw [str_dec, decide_eq_true rfl]
            exact iteT (B := Z2 H3) ⟨_, rfl, a1, _, (1 : Int), _, rfl, rfl, hs, atI_nat (j := 1) rfl, hQ _ H3 (by rw [List.getElem?_map, hgi]; rfl) (Same.refl _)⟩
        · intro H3 s3 hD3
          rw [fm_own] at hD3
          have hz := own_le ns
          refine ⟨_, rfl, D1, (own ns).map fun f => ((f : Nat) : Int), rfl, SqL.of (by rw [hD3, List.map_map]; rfl), by rw [List.length_map]; omega, _, rfl, D1, _, rfl, .inl (SqL.of hD3), rfl, ?_⟩
          rw [int_dec, List.length_map]
          have ez : decide (((PySem.W.ossOf ((own ns).map fun f => ((f : Nat) : Int))).length : Int) = ((own ns).length : Nat)) = decide (own ns).Nodup := by
            have e := oss_iff ((own ns).map fun f => ((f : Nat) : Int))
            rw [List.length_map] at e
            have e2 : ((own ns).map fun f => ((f : Nat) : Int)).Nodup ↔ (own ns).Nodup := nd_ints (own ns)
            by_cases h : (own ns).Nodup
            · rw [decide_eq_true h, decide_eq_true (by rw [e.mpr (e2.mpr h)])]
            · rw [decide_eq_false h]
              exact decide_eq_false fun z => h (e2.mp (e.mp (Int.ofNat.inj z)))
          rw [ez]
          exact q H3 (s2.trans s3)
end
end Sl

set_option Elab.async false
set_option linter.all false
set_option maxRecDepth 100000
set_option maxHeartbeats 400000
/-! ### y = {k: v for ..} -/
namespace Sl
open PySem PySem.Spec PyProof.Rows L2
section
variable {X : Cx}
theorem ps_setDc {i : Nat} {y : Str} {py : Pos} {kx vx tg iter : Expr} {ifs : List Expr} {scope : Scope} {own : List (Str × Nat)} {pos spos : Pos} {wi : TI} {g : TG} {tt : TT} {tk tv : TE} (hc : X.calm = true) (hN : X.N.Nodup) (hy : X.N[i]? = some y) (hyl : X.env.scope.names.lookup y = some .local)
    (hsw : swapsWith (.DictComp kx vx [⟨tg, iter, ifs, 0⟩] scope pos) (some (.Name y py)) spos.line X.env = pure true) (hi : PI X tg iter wi) (ok : BlkOk X.N X.env.scope scope own)
    (hg : ∀ (s : Shared) (H : Hp) (C : Addr) (cl : List (Str × Addr)) (fp : List Addr), PG (X.blk s H scope (compEnvC scope cl C X.env) fp) tg g) (ht : ∀ (s : Shared) (H : Hp) (C : Addr) (cl : List (Str × Addr)) (fp : List Addr), PTs (X.blk s H scope (compEnvC scope cl C X.env) fp) ifs tt)
    (hk : ∀ (s : Shared) (H : Hp) (C : Addr) (cl : List (Str × Addr)) (fp : List Addr), PE (X.blk s H scope (compEnvC scope cl C X.env) fp) kx tk)
    (he : ∀ (s : Shared) (H : Hp) (C : Addr) (cl : List (Str × Addr)) (fp : List Addr), PE (X.blk s H scope (compEnvC scope cl C X.env) fp) vx tv) (hs : ∀ x, foldedSetIterable iter X.env x = pure x := by intro _; rfl) :
    PS X (.Assign [.Name y py] (.DictComp kx vx [⟨tg, iter, ifs, 0⟩] scope pos) spos) (tAsg (tDc wi g tt tk tv (own.map (·.2))) (gName i)) := by
  refine ⟨fun pins s σ H D I h => ?_⟩
  rw [exec_Assign_Name_used _ _ _ _ hsw]
  refine wpAny_bind (wpAny_standAt (wpAny_bind ?_))
  show wpAny _ X.A (do let _ ← comprehension (.DictComp kx vx [⟨tg, iter, ifs, 0⟩] scope pos) scope X.env (firstIterPos [⟨tg, iter, ifs, 0⟩] pos) newDict false (eval iter X.env) (some (assign (.Name y py) X.env))) _ _ s
  have h : tDc wi g tt tk tv (own.map (·.2)) σ H (fun x H1 => gName i x σ H1 D.nx) := h
  refine wpAny_bind (thn (dc_core (Qf := fun _ s' => SP X pins D .next s') hc hN I hi ok hg ht hk he hs h fun L C s' m H' I' q hn f => ?_) fun _ s' hq => wpAny_pure (wpAny_pure hq))
  show wpAny _ _ (assign (.Name y py) X.env (.ref L)) _ _ _
  refine wpAny_assign_Name (store_ok2 (v := V.ref L) I' hN hy (.inl hyl) rfl (fun s2 I2 ⟨a, sb, ha⟩ => ?_) (.inr hyl))
  obtain ⟨f0, f1, f2, f3, f4, f5⟩ := f
  have haC : C ≠ a := by
    rcases ha with z | z
    · rw [z]; exact f1
    · exact fun e => f4 y a z e.symm
  refine ⟨m, hn.sameBut sb haC, fun h3 sb3 => ?_⟩
  exact ⟨_, H', I2.turned (t' := s2.toks) (fun b o hb e => (sb3.2 b hb).trans e) f0 f1 f3 f4 f5, q⟩
theorem sw_trueD {kx vx : Expr} {gs : List Comprehension} {scope : Scope} {pos py : Pos} {y : Str} {l : Nat} {env : PySem.Env} (hk : env.scope.kind = .function) (hy : env.scope.names.lookup y = some .local) (hl : (py.line == pos.line) = true)
    (ha : (scope.names.any fun (n, k) => n == y && (k == .local || k == .cell)) = false) : swapsWith (.DictComp kx vx gs scope pos) (some (.Name y py)) l env = pure true := by
  have ky : env.kindOf y = some .local := hy
  have hb : env.blockKind = .function := by unfold Env.blockKind; rw [hk]; rfl
  unfold swapsWith
  simp only [hb, ky, ha, Expr.pos, hl]
  rfl
end
end Sl

set_option Elab.async false
set_option linter.all false
set_option maxRecDepth 100000
set_option maxHeartbeats 400000
/-! ## pointed -/
namespace Sl
open PySem PySem.Spec PyProof.Rows L2
abbrev sPointed : Stmt := topT 27
theorem scPointed : FnScope ["node", "numbers", "passed", "one"] ["node", "numbers"] (defScope sPointed) := ⟨rfl, rfl, rfl, by decide +kernel, rfl, by decide +kernel, by decide +kernel⟩
theorem pi_or {X : Cx} {tg e : Expr} {w1 w2 : TI} (h1 : PI X tg e w1) (h2 : PI X tg e w2) : PI X tg e (fun σ H R => w1 σ H R ∨ w2 σ H R) :=
  ⟨fun pins s σ H R I h => h.elim (h1.run pins s σ H R I) (h2.run pins s σ H R I)⟩
theorem fm_somes {α β : Type} (l : List α) (f : α → β) : (l.map fun x => some (f x)).filterMap id = l.map f := by
  induction l with
  | nil => rfl
  | cons a l ih =>
    rw [List.map_cons, List.map_cons, ← ih]
    rfl
section
variable {P : Program} {w : World} {K : PySem.W.Frag} {mg : Str → Option Value} {base : Heap} {fWh fBe fNm fKd fWk fRw fPo fNd fAn : Addr} {dWh dBe dNm dKd dWk dRw dPo dNd dAn : FuncData}
def spPointed (K : PySem.W.Frag) : Sp := fun vs H Q _ => ∃ (v : V) (g : GN) (d : Addr) (kvs : List (Key × V)) (ν : Nat → Nat), vs = [v, .ref d] ∧ Rdd K H v (ndD g) ∧ H d = some (.dK kvs) ∧ (nums g).length ≤ 3 ∧ (∀ i ∈ nums g, valV kvs (Sum.inl ((i : Nat) : Int)) = some (.int (ν i : Nat))) ∧
  ∀ r H', Same H H' → Rdd K H' r (ndD (rl ν g)) → Q r H'
theorem ok_pointed (N : Gn K mg fWh fBe fNm fKd fWk fRw fPo fNd fAn dWh dBe dNm dKd dWk dRw dPo dNd dAn) {f : Addr} {fd : FuncData} (F : Fun K "pointed" "pointed" sPointed f fd) (B : Bt mg) : FnOk P w K mg base CX0 2 f fd ["node", "numbers"] (spPointed K) := by
  have GK : FnOk P w K mg base CX0 1 fKd dKd ["node"] (spKids K) := ok_kids N
  have GW : FnOk P w K mg base CX0 1 fWk dWk ["node", "children"] (spWithK K) := ok_withK N B
  refine F.ok scPointed (fun vs H Q E h => ?_) (fun cdv A outer s H vs Q E hr h => ?_)
  · obtain ⟨v, g, d, kvs, ν, rfl, _⟩ := h
    rfl
  · obtain ⟨v, g, d, kvs, ν, rfl, hv, hd, h3, hk, q⟩ := h
    have hu := hu_of hr
    have sl := sizeLine_eq
    --D
    refine ⟨_, (C8.pss_cut (ps_set (i := 2) scPointed.nd rfl (Or.inl rfl) (pe_ifExp (pt_cmpR op_eq (pe_ix ix_tup (pv 0) pe_int (fun _ _ => rfl)) pe_str (nomark _)) (pe_lst (pa_cons (pe_ix ix_tup (pv 0) pe_int (fun _ _ => rfl)) pa_nil)) (pe_call GK hr (by rfl) N.gKd N.FKd.kp N.bKd .nil pass0 (pa_cons (pv 0) pa_nil))))
        (pss_one (ps_ret (pe_call GW hr (by rfl) N.gWk N.FWk.kp N.bWk .nil pass0 (pa_cons (pv 0) (pa_cons (pe_lc (own := [("one", 3)]) (g := gName 3) (tt := tYes) (te := tDGet (tVar 1) (tVar 3)) rfl scPointed.nd (pi_or (pi_list (pv 2)) (pi_tup (pv 2))) (blkOk_by (own := [("one", 3)]) (N := ["node", "numbers", "passed", "one"]) (sc := defScope sPointed) (by decide +kernel)) (fun _ _ _ _ _ => pg_name (i := 3) scPointed.nd rfl (Or.inl rfl)) (fun _ _ _ _ _ => pts_nil) (fun _ _ _ _ _ => by exact (pe_dget hu (pv 1) (pv 3) (fun _ _ => rfl)))) pa_nil)))))), ?_⟩
    --E
    refine ⟨fun σ2 G => ∃ y, σ2 = [some v, some (.ref d), some y, none] ∧ Same H G ∧ ((∃ a, y = V.ref a ∧ SqL K G a (iL (nums g))) ∨ ∃ a, y = V.ref a ∧ SqT K G a (iL (nums g))), ?_, ?_⟩
    · cases g with
      | W x cs =>
        obtain ⟨a0, xs, rfl, hs, hx, _⟩ := id hv.tupd'
        obtain ⟨x1, x2, x3, rfl, r1, r2, r3⟩ := hx.trip
        cases r1
        refine ⟨_, rfl, a0, _, (0 : Int), _, rfl, rfl, hs, atI_nat (j := 0) rfl, rfl, _, rfl, ?_⟩
        rw [str_dec, decide_eq_false (by decide +kernel)]
        refine iteF ⟨_, rfl, _, _, rfl, hv, h3, fun r G s1 hrr => ⟨r, rfl, s1, .inr ?_⟩⟩
        obtain ⟨b, ys, rfl, hb, hy, _⟩ := hrr.tupd'
        rw [iD_ints hy] at hb
        exact ⟨b, rfl, hb⟩
      | F c =>
        obtain ⟨a0, xs, rfl, hs, hx, _⟩ := id hv.tupd'
        obtain ⟨x1, x2, rfl, r1, r2⟩ := hx.pair
        cases r1
        refine ⟨_, rfl, a0, _, (0 : Int), _, rfl, rfl, hs, atI_nat (j := 0) rfl, rfl, _, rfl, ?_⟩
        rw [str_dec, decide_eq_false (by decide +kernel)]
        refine iteF ⟨_, rfl, _, _, rfl, hv, h3, fun r G s1 hrr => ⟨r, rfl, s1, .inr ?_⟩⟩
        obtain ⟨b, ys, rfl, hb, hy, _⟩ := hrr.tupd'
        rw [iD_ints hy] at hb
        exact ⟨b, rfl, hb⟩
      | V f =>
        obtain ⟨a0, xs, rfl, hs, hx, _⟩ := id hv.tupd'
        obtain ⟨x1, x2, rfl, r1, r2⟩ := hx.pair
        cases r1
        cases r2
        refine ⟨_, rfl, a0, _, (0 : Int), _, rfl, rfl, hs, atI_nat (j := 0) rfl, rfl, _, rfl, ?_⟩
        rw [str_dec, decide_eq_true rfl]
        refine iteT ⟨_, rfl, a0, _, (1 : Int), _, rfl, rfl, hs, atI_nat (j := 1) rfl, (by show 1 ≤ sizeLine; omega), fun p np => ?_⟩
        exact ⟨_, rfl, Same.new np, .inl ⟨p, rfl, SqL.of upd_same⟩⟩
    · rintro σ2 G ⟨y, rfl, s1, hy⟩
      have hv1 := Rdd.ex (Ex.same s1) _ hv
      have hk1 := s1 _ _ hd
      have ln : (iL (nums g)).length = (nums g).length := List.length_map ..
      have step : ∀ (i : Nat) (x : V) (H2 : Hp) (Q2 : VK) (Z2 : Hp → Prop), (iL (nums g))[i]? = some x → Same G H2 → (∀ y H', ((nums g).map fun i => some (V.int (ν i : Nat)))[i]? = some (some y) → Same H2 H' → Q2 y H') →
          tDGet (tVar 1) (tVar 3) [some v, some (.ref d), some y, some x] H2 Q2 := fun i x H2 Q2 Z2 hx s2 hQ => by
        unfold iL at hx
        rw [List.getElem?_map] at hx
        obtain ⟨j, hj, rfl⟩ := Option.map_eq_some_iff.mp hx
        exact ⟨_, rfl, _, rfl, d, _, rfl, by rw [← hk j (List.mem_of_getElem? hj)]; exact DGet.k (k := Sum.inl ((j : Nat) : Int)) (s2 _ _ hk1), hQ _ H2 (by rw [List.getElem?_map, hj]; rfl) (Same.refl _)⟩
      have done : ∀ (D0 : Addr) (H2 : Hp), Same G H2 → H2 D0 = some (.lst (((nums g).map fun i => some (V.int (ν i : Nat))).filterMap id)) → spWithK K [v, .ref D0] H2 Q E0 := fun D0 H2 s2 hD => by
        rw [fm_somes] at hD
        exact ⟨v, g, D0, ν, rfl, Rdd.ex (Ex.same s2) _ hv1, SqL.of hD, h3, fun r H' s3 hr' => q r H' ((s1.trans s2).trans s3) hr'⟩
      rcases hy with ⟨a, rfl, ha⟩ | ⟨a, rfl, ha⟩
      · refine ⟨_, rfl, .inl ⟨_, rfl, a, rfl, ⟨_, ha⟩, fun D0 nD => ?_⟩⟩
        refine lcL ((nums g).map fun i => some (V.int (ν i : Nat))) (by rw [List.length_map, ln]) (by rw [ln]; omega) ha nD ?_ ?_
        · intro i x H2 Q2 Z2 hx s2 hQ _
          refine ⟨rfl, ?_⟩
          exact step i x H2 Q2 Z2 hx s2 hQ
        · intro H2 s2 hD
          exact done D0 H2 s2 hD
      · refine ⟨_, rfl, .inr ⟨_, rfl, a, rfl, ⟨_, ha⟩, fun D0 nD => ?_⟩⟩
        refine lcT ((nums g).map fun i => some (V.int (ν i : Nat))) (by rw [List.length_map, ln]) (by rw [ln]; omega) ha nD ?_ ?_
        · intro i x H2 Q2 Z2 hx s2 hQ _
          refine ⟨rfl, ?_⟩
          exact step i x H2 Q2 Z2 hx s2 hQ
        · intro H2 s2 hD
          exact done D0 H2 s2 hD
end
end Sl

set_option Elab.async false
set_option linter.all false
set_option maxRecDepth 100000
set_option maxHeartbeats 400000
/-! ## numbered -/
namespace Sl
open PySem PySem.Spec PyProof.Rows L2
abbrev sNumbered : Stmt := topT 28
theorem scNumbered : FnScope ["nodes", "root", "order", "numbers", "node", "new", "old"] ["nodes", "root"] (defScope sNumbered) := ⟨rfl, rfl, rfl, by decide +kernel, rfl, by decide +kernel, by decide +kernel⟩
section
variable {K : PySem.W.Frag} {a D : Addr} {xs : List V} {g : TG} {tt : TT} {tk tv : TE} {vs : List Nat} {σ : L2.St} {H1 : Hp} {Qd : Hp → Prop}
/-- a dict comprehension over enumerate(list) -/
theorem dcEL (Pv : Nat → Hp → Prop) (h0 : Pv 0 (upd H1 D (.dK []))) (hl : ∀ i H, Pv i H → SqL K H a xs) (hn : ∀ i H T x, Pv i H → H T = none → Pv i (upd H T (.tup [.int (i : Nat), x])))
    (hs : ∀ (i : Nat) (x : V) (T : Addr) (H : Hp), xs[i]? = some x → Pv i H → H T = some (.tup [.int (i : Nat), x]) → g (.ref T) (wipe σ vs) H fun σ2 H2 => wipe σ2 vs = wipe σ vs ∧ tt σ2 H2 fun b H3 =>
      if b = true then tk σ2 H3 fun y H4 => tv σ2 H4 fun z H5 => ∃ kvs k, y = kV k ∧ H5 D = some (.dK kvs) ∧ kvs.length < sizeLine ∧ Pv (i + 1) (upd H5 D (.dK (putK kvs k z))) else Pv (i + 1) H3) (hd : ∀ H, Pv xs.length H → Qd H) :
    ∃ W : Nat → Nat → Hp → Prop, (∃ m, W 0 m (upd H1 D (.dK []))) ∧ ∀ i m H, W i m H →
      ((Ite K a).stop i H ∧ Qd H) ∨ ((Ite K a).go i H ∧ ∃ Nx : Hp → Prop, (∀ H', Nx H' → ∃ m', m' < m ∧ W (i + 1) m' H') ∧ ∀ x H', (Ite K a).yld i H x H' → g x (wipe σ vs) H' fun σ2 H2 => wipe σ2 vs = wipe σ vs ∧ tt σ2 H2 fun b H3 =>
        if b = true then tk σ2 H3 fun y H4 => tv σ2 H4 fun z H5 => ∃ kvs k, y = kV k ∧ H5 D = some (.dK kvs) ∧ kvs.length < sizeLine ∧ Nx (upd H5 D (.dK (putK kvs k z))) else Nx H3) := by
  refine ⟨fun i m H => m = xs.length - i ∧ i ≤ xs.length ∧ Pv i H, ⟨xs.length, by simp, Nat.zero_le _, h0⟩, ?_⟩
  rintro i m H ⟨rfl, hi, p⟩
  have q := hl i H p
  by_cases hlt : i < xs.length
  · refine .inr ⟨⟨xs, xs[i], q, List.getElem?_eq_getElem hlt⟩, Pv (i + 1), fun H' p' => ⟨xs.length - (i + 1), by omega, rfl, hlt, p'⟩, fun x H' y => ?_⟩
    obtain ⟨T, x, rfl, n0, rfl, hx⟩ := y
    exact hs i x T _ (hx xs q) (hn i H T x p n0) upd_same
  · have e : i = xs.length := by omega
    subst e
    exact .inl ⟨⟨xs, q, Nat.le_refl _⟩, hd H p⟩
end
def nAt (ns : List GN) (i : Nat) : GN := ns.getD i (.F 0)
theorem nAt_get {ns : List GN} {i : Nat} (h : i < ns.length) : ns[i]? = some (nAt ns i) := by
  unfold nAt
  rw [List.getD_eq_getElem?_getD, List.getElem?_eq_getElem h]
  rfl
/-- the nodes that a walk meets, with the numbers of its order -/
def ren (ns : List GN) (o : List Nat) : List GN := o.map fun i => rl (fun j => o.idxOf j) (nAt ns i)
theorem ksF_kd (ns : List GN) : ksF (ns.map gk) = kd ns := funext fun i => by
  unfold ksF kd
  rw [List.getD_eq_getElem?_getD, List.getElem?_map]
  cases ns[i]? <;> rfl
theorem gk_rng {n : Nat} {g : GN} (h : Rng n g) : (gk g).length ≤ 3 ∧ ∀ a ∈ gk g, a < n := by
  cases g with
  | W x cs => exact h.2
  | F c => exact ⟨by simp [gk], fun a ha => by rw [List.mem_singleton.mp ha]; exact h⟩
  | V f => exact ⟨Nat.zero_le _, fun a ha => by cases ha⟩
theorem nums_rng {n : Nat} {g : GN} (h : Rng n g) : (nums g).length ≤ 3 ∧ ∀ a ∈ nums g, a < n := by
  cases g with
  | W x cs => exact h.2
  | F c => exact ⟨by simp [nums], fun a ha => by rw [List.mem_singleton.mp ha]; exact h⟩
  | V f => exact ⟨by simp [nums], fun a ha => by rw [List.mem_singleton.mp ha]; exact h⟩
theorem ksOk_of {ns : List GN} (h : ∀ g ∈ ns, Rng ns.length g) : KsOk (ns.map gk) := fun c hc => by
  obtain ⟨g, hg, rfl⟩ := List.mem_map.mp hc
  rw [List.length_map]
  exact gk_rng (h g hg)
theorem idxOf_at {o : List Nat} (nd : o.Nodup) {i : Nat} (h : i < o.length) : o.idxOf o[i] = i := List.Nodup.idxOf_getElem nd i h
section
variable {P : Program} {w : World} {K : PySem.W.Frag} {mg : Str → Option Value} {base : Heap} {fWh fBe fNm fKd fWk fRw fPo fNd fAn : Addr} {dWh dBe dNm dKd dWk dRw dPo dNd dAn : FuncData}
/-- a list of what children_of gives -/
def spNumbered (K : PySem.W.Frag) : Sp := fun vs H Q _ => ∃ (u : V) (ns : List GN) (r : Nat), vs = [u, .int (r : Nat)] ∧ Rdd K H u (.tup (ns.map ndD)) ∧ (∀ g ∈ ns, Rng ns.length g) ∧ r < ns.length ∧ ns.length ≤ 4000 ∧
  (∀ o, FW (kd ns) [] [r] o → ∀ i ∈ o, ∀ j ∈ nums (nAt ns i), j ∈ o) ∧
  ∀ o v H', FW (kd ns) [] [r] o → o.Nodup → (∀ i ∈ o, i < ns.length) → Same H H' → Rdd K H' v (.tup ((ren ns o).map ndD)) → Q v H'
theorem ok_numbered (N : Gn K mg fWh fBe fNm fKd fWk fRw fPo fNd fAn dWh dBe dNm dKd dWk dRw dPo dNd dAn) {f fWa fPt : Addr} {fd fdWa fdPt : FuncData} (F : Fun K "numbered" "numbered" sNumbered f fd)
    (FWa : Fun K "first_walk" "first_walk" sWalk fWa fdWa) (bWa : Binds K fdWa ["inner", "root"] []) (gWa : mg "first_walk" = some (.ref fWa)) (FPt : Fun K "pointed" "pointed" sPointed fPt fdPt) (bPt : Binds K fdPt ["node", "numbers"] []) (gPt : mg "pointed" = some (.ref fPt))
    (B : Bt mg) : FnOk P w K mg base CX0 3 f fd ["nodes", "root"] (spNumbered K) := by
  have GK : FnOk P w K mg base CX0 1 fKd dKd ["node"] (spKids K) := ok_kids N
  have GW : FnOk P w K mg base CX0 1 fWa fdWa ["inner", "root"] (spWalk K) := ok_walk FWa B
  have GP : FnOk P w K mg base CX0 2 fPt fdPt ["node", "numbers"] (spPointed K) := ok_pointed N FPt B
  refine F.ok scNumbered (fun vs H Q E h => ?_) (fun cdv A outer s H vs Q E hr h => ?_)
  · obtain ⟨u, ns, r, rfl, _⟩ := h
    rfl
  · obtain ⟨u, ns, r, rfl, hu, hg, hlt, hn, hcl, q⟩ := h
    have h1 := hr.mono (by decide : 1 ≤ 2)
    have sl := sizeLine_eq
    --D
    refine ⟨_, (pss_cons (ps_set (i := 2) scNumbered.nd rfl (Or.inl rfl) (pe_call GW h1 (by rfl) gWa FWa.kp bWa .nil pass0 (pa_cons (pe_lc (own := [("node", 4)]) (g := gName 4) (tt := tYes) (te := tCall (spKids K) [] E0 (tCons (tVar 4) tNil)) rfl scNumbered.nd (pi_tup (pv 0)) (blkOk_by (own := [("node", 4)]) (N := ["nodes", "root", "order", "numbers", "node", "new", "old"]) (sc := defScope sNumbered) (by decide +kernel)) (fun _ _ _ _ _ => pg_name (i := 4) scNumbered.nd rfl (Or.inl rfl)) (fun _ _ _ _ _ => pts_nil) (fun _ _ _ _ _ => by exact (pe_call GK h1 (by rfl) N.gKd N.FKd.kp N.bKd .nil pass0 (pa_cons (pv 4) pa_nil)))) (pa_cons (pv 1) pa_nil))))
        (pss_cons (ps_set (i := 3) scNumbered.nd rfl (Or.inr rfl) (pe_dc (own := [("new", 5), ("old", 6)]) (g := gTup K 2 (gCons (gName 5) (gCons (gName 6) gNil))) (tt := tYes) (tk := tVar 6) (tv := tVar 5) rfl scNumbered.nd (pi_enum (by rfl) B.enum (pa_cons (pv 2) pa_nil)) (blkOk_by (own := [("new", 5), ("old", 6)]) (N := ["nodes", "root", "order", "numbers", "node", "new", "old"]) (sc := defScope sNumbered) (by decide +kernel)) (fun _ _ _ _ _ => pg_tup rfl (pgs_cons (pg_name (i := 5) scNumbered.nd rfl (Or.inl rfl)) (pgs_cons (pg_name (i := 6) scNumbered.nd rfl (Or.inl rfl)) pgs_nil))) (fun _ _ _ _ _ => pts_nil) (fun _ _ _ _ _ => pv 6) (fun _ _ _ _ _ => pv 5)))
        (pss_one (ps_ret (pe_callTy call_tuple_of (by rfl) B.tuple (by decide +kernel) (pa_cons (pe_lc (own := [("old", 6)]) (g := gName 6) (tt := tYes) (te := tCall (spPointed K) [] E0 (tCons (tOp (rIxT K) (tVar 0) (tVar 6)) (tCons (tVar 3) tNil))) rfl scNumbered.nd (pi_list (pv 2)) (blkOk_by (own := [("old", 6)]) (N := ["nodes", "root", "order", "numbers", "node", "new", "old"]) (sc := defScope sNumbered) (by decide +kernel)) (fun _ _ _ _ _ => pg_name (i := 6) scNumbered.nd rfl (Or.inl rfl)) (fun _ _ _ _ _ => pts_nil) (fun _ _ _ _ _ => by exact (pe_call GP hr (by rfl) gPt FPt.kp bPt .nil pass0 (pa_cons (pe_ix ix_tup (pv 0) (pv 6) (fun _ _ => rfl)) (pa_cons (pv 3) pa_nil))))) pa_nil)))))), ?_⟩
    --E
    have hu' := hu
    obtain ⟨b0, us, rfl, hsu, hxu, _⟩ := hu'.tupd'
    have lu : us.length = ns.length := by rw [hxu.length, List.length_map]
    have hnone : ∀ {G : Hp} {b : Addr}, Same H G → G b = none → H b = none := fun {G b} s n => by
      cases e : H b with
      | none => rfl
      | some o =>
        rw [s _ _ e] at n
        cases n
    refine ⟨_, rfl, b0, rfl, ⟨_, hsu⟩, fun D0 nD => ?_⟩
    refine lcJT (Pd := fun i d => ∃ g, ns[i]? = some g ∧ d = .tup (iD (gk g))) jr_same (Same.refl _) (by omega) hsu nD ?_ ?_
    · intro i x H2 Q2 Z2 hx s2 hQ
      obtain ⟨d, hd, rx⟩ := hxu.get hx
      rw [List.getElem?_map] at hd
      obtain ⟨g, hgi, rfl⟩ := Option.map_eq_some_iff.mp hd
      refine ⟨rfl, ?_⟩
      exact iteT (B := Z2 H2) ⟨_, rfl, x, g, rfl, Rdd.ex (Ex.same s2) _ rx, (gk_rng (hg g (List.mem_of_getElem? hgi))).1, fun r0 H3 s3 hr0 => hQ r0 H3 _ s3 hr0 ⟨g, hgi, rfl⟩⟩
    · intro H2 ys ds s2 hD ry ld pd
      have ed : ds = (ns.map gk).map fun c => .tup (iD c) := by
        apply List.ext_getElem?
        intro i
        rw [List.getElem?_map, List.getElem?_map]
        by_cases hi : i < ds.length
        · obtain ⟨g, h1, h2⟩ := pd i _ (List.getElem?_eq_getElem hi)
          rw [List.getElem?_eq_getElem hi, h1, h2]
          rfl
        · rw [List.getElem?_eq_none (by omega), List.getElem?_eq_none (by omega)]
          rfl
      rw [ed] at ry
      refine ⟨_, rfl, D0, ys, ns.map gk, r, rfl, SqL.of hD, ry, ksOk_of hg, by rw [List.length_map]; exact hlt, by rw [List.length_map]; exact hn, fun o p H3 fw nd lt s3 np hp => ?_⟩
      rw [ksF_kd] at fw
      have lt' : ∀ i ∈ o, i < ns.length := fun i hi => by
        have := lt i hi
        rwa [List.length_map] at this
      have lo := nd_len' nd lt'
      have s03 : Same H H3 := s2.trans s3
      -- numbers
      refine ⟨_, rfl, p, iL o, rfl, SqL.of hp, fun D1 nD1 => ?_⟩
      have nD1' := hnone s03 nD1
      refine dcEL (K := K) (xs := iL o) (fun i G => Same H3 G ∧ ∃ kvs, G D1 = some (.dK kvs) ∧ kvs.length ≤ i ∧ ∀ (j : Nat) (x : Nat), j < i → o[j]? = some x → valV kvs (Sum.inl ((x : Nat) : Int)) = some (.int (j : Nat))) ?_ ?_ ?_ ?_ ?_
      · exact ⟨jr_same.put (Same.refl _) nD1, [], upd_same, Nat.le_refl _, fun j x h => by omega⟩
      · rintro i G ⟨sG, _⟩
        exact Same.seq sG (SqL.of hp)
      · rintro i G T x ⟨sG, kvs, h1, h2, h3⟩ nT
        have sT := Same.new (o := .tup [V.int (i : Nat), x]) nT
        exact ⟨sG.trans sT, kvs, sT _ _ h1, h2, h3⟩
      · rintro i x T G hx ⟨sG, kvs, h1, h2, h3⟩ hT
        unfold iL at hx
        rw [List.getElem?_map] at hx
        obtain ⟨y, hy, rfl⟩ := Option.map_eq_some_iff.mp hx
        have hi := (List.getElem?_eq_some_iff.mp hy).1
        refine ⟨T, _, rfl, SqT.of hT, rfl, _, _, rfl, _, _, rfl, rfl, rfl, ?_⟩
        unfold tYes
        dsimp only
        rw [if_pos rfl]
        refine ⟨_, rfl, _, rfl, kvs, Sum.inl ((y : Nat) : Int), rfl, h1, by omega, ?_⟩
        refine ⟨jr_same.put sG nD1, _, upd_same, ?_, fun j x hj hxo => ?_⟩
        · have := length_putK kvs (Sum.inl ((y : Nat) : Int)) (.int (i : Nat))
          omega
        · rw [valV_put]
          by_cases e : j = i
          · subst e
            have exy : x = y := Option.some.inj (hxo.symm.trans hy)
            rw [exy]
            exact if_pos rfl
          · have ne : ¬ (Sum.inl ((x : Nat) : Int) : Key) = Sum.inl ((y : Nat) : Int) := fun z => by
              have exy : x = y := Int.ofNat.inj (Sum.inl.inj z)
              subst exy
              obtain ⟨a1, a2⟩ := List.getElem?_eq_some_iff.mp hxo
              obtain ⟨b1, b2⟩ := List.getElem?_eq_some_iff.mp hy
              exact e ((List.getElem_inj nd).mp (a2.trans b2.symm))
            rw [if_neg ne]
            exact h3 j x (by omega) hxo
      · rintro G ⟨sG, kvs, h1, h2, h3⟩
        have lio : (iL o).length = o.length := List.length_map ..
        rw [lio] at h2 h3
        have s0G : Same H G := s03.trans sG
        -- the nodes in the walk's order
        refine ⟨_, rfl, p, rfl, ⟨_, SqL.of (sG _ _ hp)⟩, fun D2 nD2 => ?_⟩
        refine lcJL (Pd := fun i d => ∃ x, o[i]? = some x ∧ d = ndD (rl (fun j => o.idxOf j) (nAt ns x))) jr_same (Same.refl _) (by rw [lio]; omega) (fun G2 s2 => Same.seq s2 (SqL.of (sG _ _ hp))) nD2 ?_ ?_
        · intro i x G2 Q2 Z2 hx s2 hQ
          unfold iL at hx
          rw [List.getElem?_map] at hx
          obtain ⟨y, hy, rfl⟩ := Option.map_eq_some_iff.mp hx
          have hym := List.mem_of_getElem? hy
          have hyl := lt' y hym
          have hat := nAt_get hyl
          obtain ⟨z, hz, rz⟩ := hxu.at (i := y) (d := ndD (nAt ns y)) (by rw [List.getElem?_map, hat]; rfl)
          have sG2 := s0G.trans s2
          refine ⟨rfl, ?_⟩
          refine iteT (B := Z2 G2) ⟨_, rfl, _, rfl, b0, us, ((y : Nat) : Int), z, rfl, rfl, (Ex.same sG2).tup hsu, atI_nat hz, _, rfl, z, nAt ns y, D1, kvs, fun j => o.idxOf j, rfl, Rdd.ex (Ex.same sG2) _ rz, s2 _ _ h1, (nums_rng (hg _ (List.mem_of_getElem? hat))).1, fun j hj => ?_, fun r0 G3 s3 hr0 => hQ r0 G3 _ s3 hr0 ⟨y, hy, rfl⟩⟩
          have jo := hcl o fw y hym j hj
          obtain ⟨k, hk, ek⟩ := List.getElem_of_mem jo
          have e1 : o.idxOf j = k := by rw [← ek]; exact idxOf_at nd hk
          show valV kvs (Sum.inl ((j : Nat) : Int)) = some (.int (o.idxOf j : Nat))
          rw [e1]
          exact h3 k j hk (by rw [List.getElem?_eq_getElem hk, ek])
        · intro G2 zs es s2 hD2 rz le pe
          have ee : es = (ren ns o).map ndD := by
            apply List.ext_getElem?
            intro i
            unfold ren
            rw [List.getElem?_map, List.getElem?_map]
            rw [lio] at le
            by_cases hi : i < es.length
            · obtain ⟨x, h4, h5⟩ := pe i _ (List.getElem?_eq_getElem hi)
              rw [List.getElem?_eq_getElem hi, h4, h5]
              rfl
            · rw [List.getElem?_eq_none (by omega), List.getElem?_eq_none (by omega)]
              rfl
          rw [ee] at rz
          refine ⟨D2, zs, rfl, .inl ⟨SqL.of hD2, fun p2 np2 => ?_⟩⟩
          have s4 := Same.new (o := .tup zs) np2
          refine q o _ _ fw nd lt' ((s0G.trans s2).trans s4) (tup_val upd_same (RddAll.ex (Ex.same s4) _ rz) ?_)
          rw [List.length_map]
          unfold ren
          rw [List.length_map]
          omega
end
end Sl

set_option Elab.async false
set_option linter.all false
set_option maxRecDepth 100000
set_option maxHeartbeats 400000
/-! ## parents_of -/
namespace Sl
open PySem PySem.Spec PyProof.Rows L2
abbrev sParents : Stmt := topT 22
theorem scParents : FnScope ["nodes", "parents", "number", "node", "place", "child", "_"] ["nodes"] (defScope sParents) := ⟨rfl, rfl, rfl, by decide +kernel, rfl, by decide +kernel, by decide +kernel⟩
def pD (p : Nat × Nat) : D := .tup [.int (p.1 : Nat), .int (p.2 : Nat)]
def rowP (j c : Nat) (l : List Nat) (t : Nat) : List (Nat × Nat) := (List.range t).filterMap fun k => if l[k]? = some c then some (j, k) else none
def parP (ns : List GN) (c i : Nat) : List (Nat × Nat) := (List.range i).flatMap fun j => rowP j c (kd ns j) (kd ns j).length
theorem rowP_succ (j c : Nat) (l : List Nat) (t : Nat) : rowP j c l (t + 1) = rowP j c l t ++ if l[t]? = some c then [(j, t)] else [] := by
  unfold rowP
  rw [List.range_succ, List.filterMap_append]
  congr 1
  by_cases h : l[t]? = some c
  · simp [h]
  · simp [h]
theorem parP_succ (ns : List GN) (c i : Nat) : parP ns c (i + 1) = parP ns c i ++ rowP i c (kd ns i) (kd ns i).length := by
  unfold parP
  rw [List.range_succ, List.flatMap_append]
  simp
theorem mem_rowP {j c : Nat} {l : List Nat} {t : Nat} {p : Nat × Nat} : p ∈ rowP j c l t ↔ p.1 = j ∧ p.2 < t ∧ l[p.2]? = some c := by
  unfold rowP
  rw [List.mem_filterMap]
  constructor
  · rintro ⟨k, hk, h⟩
    by_cases e : l[k]? = some c
    · rw [if_pos e] at h
      cases h
      exact ⟨rfl, List.mem_range.mp hk, e⟩
    · rw [if_neg e] at h
      cases h
  · rintro ⟨h1, h2, h3⟩
    exact ⟨p.2, List.mem_range.mpr h2, by rw [if_pos h3, ← h1]⟩
theorem mem_parP {ns : List GN} {c i : Nat} {p : Nat × Nat} : p ∈ parP ns c i ↔ p.1 < i ∧ (kd ns p.1)[p.2]? = some c := by
  unfold parP
  rw [List.mem_flatMap]
  constructor
  · rintro ⟨j, hj, h⟩
    obtain ⟨h1, h2, h3⟩ := mem_rowP.mp h
    exact ⟨by rw [h1]; exact List.mem_range.mp hj, by rw [h1]; exact h3⟩
  · rintro ⟨h1, h2⟩
    exact ⟨p.1, List.mem_range.mpr h1, mem_rowP.mpr ⟨rfl, (List.getElem?_eq_some_iff.mp h2).1, h2⟩⟩
theorem rowP_len (j c : Nat) (l : List Nat) (t : Nat) : (rowP j c l t).length ≤ t := by
  unfold rowP
  exact Nat.le_trans (List.length_filterMap_le _ _) (by rw [List.length_range]; exact Nat.le_refl _)
theorem parP_len {ns : List GN} (hg : ∀ g ∈ ns, Rng ns.length g) (c i : Nat) : (parP ns c i).length ≤ 3 * i := by
  induction i with
  | zero => exact Nat.le_refl _
  | succ i ih =>
    rw [parP_succ, List.length_append]
    have h := rowP_len i c (kd ns i) (kd ns i).length
    have k3 : (kd ns i).length ≤ 3 := by
      cases hgi : ns[i]? with
      | none => rw [show kd ns i = [] by unfold kd; rw [hgi]]; exact Nat.zero_le _
      | some g => rw [kd_at hgi]; exact (gk_rng (hg g (List.mem_of_getElem? hgi))).1
    omega
/-- the lists of parents, when the first i nodes are through and of the next one t children -/
structure Par (K : PySem.W.Frag) (ns : List GN) (i t : Nat) (G : Hp) (L : LsN) : Prop where
  len : L.length = ns.length
  exa : ∀ (c : Nat) (z : Addr × List V), L[c]? = some z → RddAll K G z.2 ((parP ns c i ++ rowP i c (kd ns i) t).map pD)
theorem Par.ex {K : PySem.W.Frag} {ns : List GN} {i t : Nat} {G G' : Hp} {L : LsN} (x : Ex G G') (h : Par K ns i t G L) : Par K ns i t G' L :=
  ⟨h.len, fun c z hz => RddAll.ex x _ (h.exa c z hz)⟩
theorem Par.rd {K : PySem.W.Frag} {ns : List GN} {i t : Nat} {G : Hp} {L : LsN} (h : Par K ns i t G L) (hg : ∀ g ∈ ns, Rng ns.length g) (c : Nat) (z : Addr × List V) (hz : L[c]? = some z) : ∃ ps : List (Nat × Nat), RddAll K G z.2 (ps.map pD) ∧ ps.length ≤ 3 * i + t ∧ (∀ p ∈ ps, c ∈ kd ns p.1) ∧ (∀ j, j < i → c ∈ kd ns j → ∃ k, (j, k) ∈ ps) ∧ ∀ k, k < t → (kd ns i)[k]? = some c → ∃ k', (i, k') ∈ ps := by
  refine ⟨_, h.exa c z hz, ?_, fun p hp => ?_, fun j hj hc => ?_, fun k hk hc => ⟨k, List.mem_append_right _ (mem_rowP.mpr ⟨rfl, hk, hc⟩)⟩⟩
  · rw [List.length_append]
    have h1 := parP_len hg c i
    have h2 := rowP_len i c (kd ns i) t
    omega
  · rcases List.mem_append.mp hp with hp | hp
    · exact List.mem_of_getElem? (mem_parP.mp hp).2
    · obtain ⟨h1, _, h3⟩ := mem_rowP.mp hp
      rw [h1]
      exact List.mem_of_getElem? h3
  · obtain ⟨k, hk, e⟩ := List.getElem_of_mem hc
    exact ⟨k, List.mem_append_left _ (mem_parP.mpr ⟨hj, by show (kd ns j)[k]? = some c; rw [List.getElem?_eq_getElem hk, e]⟩)⟩
section
variable {P : Program} {w : World} {K : PySem.W.Frag} {mg : Str → Option Value} {base : Heap} {fWh fBe fNm fKd fWk fRw fPo fNd fAn : Addr} {dWh dBe dNm dKd dWk dRw dPo dNd dAn : FuncData}
def spParents (K : PySem.W.Frag) : Sp := fun vs H Q _ => ∃ (u : V) (ns : List GN), vs = [u] ∧ Rdd K H u (.tup (ns.map ndD)) ∧ (∀ g ∈ ns, Rng ns.length g) ∧ ns.length ≤ 4000 ∧
  ∀ p H' L, TrN H H' ((p, L.map fun z => V.ref z.1) :: L) → Par K ns ns.length 0 H' L → Q (.ref p) H'
theorem ok_parents (N : Gn K mg fWh fBe fNm fKd fWk fRw fPo fNd fAn dWh dBe dNm dKd dWk dRw dPo dNd dAn) {f : Addr} {fd : FuncData} (F : Fun K "parents_of" "parents_of" sParents f fd) (B : Bt mg) : FnOk P w K mg base CX0 2 f fd ["nodes"] (spParents K) := by
  have GK : FnOk P w K mg base CX0 1 fKd dKd ["node"] (spKids K) := ok_kids N
  refine F.ok scParents (fun vs H Q E h => ?_) (fun cdv A outer s H vs Q E hr h => ?_)
  · obtain ⟨u, ns, rfl, _⟩ := h
    rfl
  · obtain ⟨u, ns, rfl, hu, hg, hn, q⟩ := h
    have sl := sizeLine_eq
    --D
    refine ⟨_, (pss_cons (ps_setLc (i := 1) (own := [("_", 6)]) (g := gName 6) (tt := tYes) (te := tLst tNil) rfl scParents.nd rfl rfl (sw_true rfl rfl rfl (by decide +kernel)) (pi_tup (pv 0)) (blkOk_by (own := [("_", 6)]) (N := ["nodes", "parents", "number", "node", "place", "child", "_"]) (sc := defScope sParents) (by decide +kernel)) (fun _ _ _ _ _ => pg_name (i := 6) scParents.nd rfl (Or.inl rfl)) (fun _ _ _ _ _ => pts_nil) (fun _ _ _ _ _ => by exact pe_lst pa_nil))
        (pss_cons (ps_for PassesOwn.never rfl (pi_enumT (by rfl) B.enum (pa_cons (pv 0) pa_nil)) (pg_tup rfl (pgs_cons (pg_name (i := 2) scParents.nd rfl (Or.inl rfl)) (pgs_cons (pg_name (i := 3) scParents.nd rfl (Or.inl rfl)) pgs_nil)))
          (pss_one (ps_for PassesOwn.never rfl (pi_enumT (by rfl) B.enum (pa_cons (pe_call GK hr (by rfl) N.gKd N.FKd.kp N.bKd .nil pass0 (pa_cons (pv 3) pa_nil)) pa_nil)) (pg_tup rfl (pgs_cons (pg_name (i := 4) scParents.nd rfl (Or.inl rfl)) (pgs_cons (pg_name (i := 5) scParents.nd rfl (Or.inl rfl)) pgs_nil)))
          (pss_one (ps_expr (pe_bm PySem.F.plainAttrs_list PySem.F.slot_list_append PySem.F.type_list_append mt_append (pe_ix ix_list (pv 1) (pv 5) (fun _ _ => rfl)) (pa_cons (pe_tup (pa_cons (pv 2) (pa_cons (pv 4) pa_nil))) pa_nil)))))))
        (pss_one (ps_ret (pv 1))))), ?_⟩
    --E
    have hu' := hu
    obtain ⟨b0, us, rfl, hsu, hxu, _⟩ := hu'.tupd'
    have lu : us.length = ns.length := by rw [hxu.length, List.length_map]
    refine ⟨_, rfl, b0, rfl, ⟨_, hsu⟩, fun D0 nD => ?_⟩
    refine lcNew (by omega) hsu nD ?_ ?_
    · intro x G Q2 Z2 hQ
      refine ⟨rfl, ?_⟩
      exact iteT (B := Z2 G) ⟨(by show 0 ≤ sizeLine; omega), fun p np => hQ p np⟩
    · intro H1 as la t1
      refine ⟨_, rfl, b0, us, rfl, (Ex.same t1.same).tup hsu, ?_⟩
      refine for_ET (xs := us) (fun i σ G => ∃ (g2 g3 g4 g5 : Option V) (L : LsN), σ = [some (.ref b0), some (.ref D0), g2, g3, g4, g5, none] ∧ TrN H G ((D0, as.map V.ref) :: L) ∧ L.map (·.1) = as ∧ Par K ns i 0 G L) ?_ ?_ ?_ ?_ ?_
      · refine ⟨none, none, none, none, _, rfl, t1, ?_, ?_, fun c z hz => ?_⟩
        · rw [List.map_map]
          exact List.map_id _
        · rw [List.length_map, la, lu]
        · rw [List.getElem?_map] at hz
          obtain ⟨p, _, rfl⟩ := Option.map_eq_some_iff.mp hz
          exact .nil
      · rintro i σ G ⟨g2, g3, g4, g5, L, rfl, t, _, _⟩
        exact (Ex.same t.same).tup hsu
      · rintro i σ G T x ⟨g2, g3, g4, g5, L, rfl, t, e, pr⟩ nT
        have s := Same.new (o := .tup [V.int (i : Nat), x]) nT
        exact ⟨g2, g3, g4, g5, L, rfl, t.go s, e, pr.ex (.same s)⟩
      · rintro i x T σ G hx ⟨g2, g3, g4, g5, L, rfl, t, e, pr⟩ hT
        obtain ⟨d, hd, rx⟩ := hxu.get hx
        rw [List.getElem?_map] at hd
        obtain ⟨g, hgi, rfl⟩ := Option.map_eq_some_iff.mp hd
        have hi := (List.getElem?_eq_some_iff.mp hgi).1
        have gr := hg g (List.mem_of_getElem? hgi)
        have ek : kd ns i = gk g := kd_at hgi
        refine ⟨T, _, rfl, SqT.of hT, rfl, _, _, rfl, _, _, rfl, rfl, ?_⟩
        refine ⟨_, rfl, x, g, rfl, Rdd.ex (Ex.same t.same) _ rx, (gk_rng gr).1, fun r0 G1 s1 hr0 => ?_⟩
        obtain ⟨c0, cs, rfl, hc0, hcs, _⟩ := hr0.tupd'
        have ecs := iD_ints hcs
        have lcs : cs.length = (gk g).length := by rw [ecs, List.length_map]
        have t1' := t.go s1
        refine ⟨c0, cs, rfl, hc0, ?_⟩
        refine for_ET (xs := cs) (fun k σ G2 => ∃ (g4 g5 : Option V) (L : LsN), σ = [some (.ref b0), some (.ref D0), some (.int (i : Nat)), some x, g4, g5, none] ∧ Ex G1 G2 ∧ TrN H G2 ((D0, as.map V.ref) :: L) ∧ L.map (·.1) = as ∧ Par K ns i k G2 L) ?_ ?_ ?_ ?_ ?_
        · exact ⟨g4, g5, L, rfl, .same (Same.refl _), t1', e, pr.ex (.same s1)⟩
        · rintro k σ G2 ⟨g4, g5, L, rfl, x2, t2, e2, pr2⟩
          exact x2.tup hc0
        · rintro k σ G2 T2 y ⟨g4, g5, L, rfl, x2, t2, e2, pr2⟩ nT2
          have s := Same.new (o := .tup [V.int (k : Nat), y]) nT2
          exact ⟨g4, g5, L, rfl, x2.trans (.same s), t2.go s, e2, pr2.ex (.same s)⟩
        · rintro k y T2 σ G2 hy ⟨g4, g5, L, rfl, x2, t2, e2, pr2⟩ hT2
          rw [ecs, List.getElem?_map] at hy
          obtain ⟨c, hck, rfl⟩ := Option.map_eq_some_iff.mp hy
          have hkk := (List.getElem?_eq_some_iff.mp hck).1
          have k3 := (gk_rng gr).1
          have hc := (gk_rng gr).2 c (List.mem_of_getElem? hck)
          have hLc : L[c]? = some (L[c]'(by rw [pr2.len]; exact hc)) := List.getElem?_eq_getElem _
          generalize L[c]'(by rw [pr2.len]; exact hc) = z at hLc
          have rps := pr2.exa c z hLc
          have lz : z.2.length ≤ 3 * i + k := by
            rw [rps.length, List.length_map, List.length_append]
            have h1 := parP_len hg c i
            have h2 := rowP_len i c (kd ns i) k
            omega
          refine ⟨T2, _, rfl, SqT.of hT2, rfl, _, _, rfl, _, _, rfl, rfl, ?_⟩
          have hD0 := t2.at (i := 0) (a := D0) (l := as.map V.ref) rfl
          have hz2 := t2.hold z (List.mem_cons_of_mem _ (List.mem_of_getElem? hLc))
          refine ⟨_, rfl, _, rfl, D0, _, ((c : Nat) : Int), V.ref z.1, rfl, rfl, SqL.of hD0, atI_nat (j := c) (by rw [List.getElem?_map, ← e2, List.getElem?_map, hLc]; rfl), .inl ⟨rfl, _, SqL.of hz2⟩, _, rfl, _, rfl, (by show 2 ≤ sizeLine; omega), fun p np => ?_⟩
          have s3 := Same.new (o := .tup [V.int (i : Nat), .int (k : Nat)]) np
          have hp3 : (upd G2 p (.tup [V.int (i : Nat), .int (k : Nat)])) p = some (.tup [V.int (i : Nat), .int (k : Nat)]) := upd_same
          have t3 := t2.go s3
          have pr3 := pr2.ex (.same s3)
          have x3 := x2.trans (.same s3)
          generalize upd G2 p (.tup [V.int (i : Nat), .int (k : Nat)]) = G3 at s3 hp3 t3 pr3 x3 ⊢
          have hz3 := t3.hold z (List.mem_cons_of_mem _ (List.mem_of_getElem? hLc))
          refine ⟨z.1, _, _, rfl, rfl, hz3, by omega, ?_⟩
          have t4 := t3.set (i := c + 1) (a := z.1) (l := z.2) (l' := z.2 ++ [V.ref p]) hLc
          have x4 : Ex G3 (upd G3 z.1 (.lst (z.2 ++ [V.ref p]))) := (Off.put (a := z.1)).ex hz3 upd_same
          refine ⟨_, _, L.set c (z.1, z.2 ++ [V.ref p]), rfl, x3.trans x4, t4, by rw [lsn_fst hLc]; exact e2, by rw [List.length_set]; exact pr3.len, fun c' z' hz' => ?_⟩
          rw [rowP_succ, ek]
          by_cases ec : c = c'
          · subst ec
            rw [List.getElem?_set_self (List.getElem?_eq_some_iff.mp hLc).1] at hz'
            cases hz'
            rw [if_pos hck, ← List.append_assoc, List.map_append]
            rw [ek] at rps
            exact (RddAll.ex x4 _ (RddAll.ex (.same s3) _ rps)).snoc (tup_val (by rw [upd_ne (fun w => by rw [w, hz3] at hp3; cases hp3)]; exact hp3) (.cons (.int _) (.cons (.int _) .nil)) (by simp))
          · rw [List.getElem?_set_ne ec] at hz'
            have r1 := pr3.exa c' z' hz'
            rw [ek] at r1
            rw [if_neg (fun w => ec (by rw [hck] at w; exact Option.some.inj w)), List.append_nil]
            exact RddAll.ex x4 _ r1
        · rintro σ G2 ⟨g4, g5, L, rfl, x2, t2, e2, pr2⟩
          refine ⟨_, _, g4, g5, L, rfl, t2, e2, pr2.len, fun c z hz => ?_⟩
          have r1 := pr2.exa c z hz
          rw [lcs, ← ek, ← parP_succ] at r1
          rw [show rowP (i + 1) c (kd ns (i + 1)) 0 = [] from rfl, List.append_nil]
          exact r1
      · rintro σ G ⟨g2, g3, g4, g5, L, rfl, t, e, pr⟩
        rw [lu] at pr
        refine ⟨_, rfl, q D0 G L ?_ pr⟩
        rw [show (L.map fun z => V.ref z.1) = as.map V.ref by rw [← e, List.map_map]; rfl]
        exact t
end
end Sl

set_option Elab.async false
set_option linter.all false
set_option maxRecDepth 100000
set_option maxHeartbeats 400000
/-! ## _in_need -/
namespace Sl
open PySem PySem.Spec PyProof.Rows L2
abbrev sInNeed : Stmt := topT 23
theorem scInNeed : FnScope ["parents", "variable", "function", "found", "waiting", "number", "parent", "_"] ["parents", "variable", "function"] (defScope sInNeed) := ⟨rfl, rfl, rfl, by decide +kernel, rfl, by decide +kernel, by decide +kernel⟩
section
variable {P : Program} {w : World} {K : PySem.W.Frag} {mg : Str → Option Value} {base : Heap}
/-- who needs f because of v, so far -/
structure Nds (ns : List GN) (f v : Nat) (m st : List Nat) : Prop where
  nd : m.Nodup
  lt : ∀ i ∈ m, i < ns.length
  sub : ∀ i ∈ st, i ∈ m
  has : v ∈ m
  sound : ∀ i ∈ m, Nd ns f v i
  full : ∀ i ∈ m, i ∉ st → ∀ j, i ∈ kd ns j → j ≠ f → j ∈ m
theorem Nds.all {ns : List GN} {f v : Nat} {m : List Nat} (h : Nds ns f v m []) (i : Nat) : i ∈ m ↔ Nd ns f v i := by
  refine ⟨h.sound i, fun n => ?_⟩
  induction n with
  | var => exact h.has
  | @up i c _ hc hne ih => exact h.full c ih (by simp) i hc hne
def spInNeed (K : PySem.W.Frag) : Sp := fun vs H Q _ => ∃ (p : Addr) (L : LsN) (ns : List GN) (v f : Nat), vs = [.ref p, .int (v : Nat), .int (f : Nat)] ∧ H p = some (.lst (L.map fun z => V.ref z.1)) ∧ (∀ z ∈ L, H z.1 = some (.lst z.2)) ∧ Par K ns ns.length 0 H L ∧ (∀ g ∈ ns, Rng ns.length g) ∧ v < ns.length ∧ ns.length ≤ 4000 ∧
  ∀ m r H', Nds ns f v m [] → Same H H' → H r = none → H' r = some (.lst (iL m)) → Q (.ref r) H'
theorem ok_inNeed {f : Addr} {fd : FuncData} (F : Fun K "_in_need" "_in_need" sInNeed f fd) (B : Bt mg) : FnOk P w K mg base CX0 1 f fd ["parents", "variable", "function"] (spInNeed K) := by
  refine F.ok scInNeed (fun vs H Q E h => ?_) (fun cdv A outer s H vs Q E hr h => ?_)
  · obtain ⟨p, L, ns, v, f, rfl, _⟩ := h
    rfl
  · obtain ⟨p, L, ns, v, f, rfl, hp, hL, pr, hg, hv, hn, q⟩ := h
    have hu := hu_of hr
    have sl := sizeLine_eq
    --D
    refine ⟨_, (pss_cons (ps_set (i := 3) scInNeed.nd rfl (Or.inl rfl) (pe_disp (pps_cons (pv 1) pe_bl pps_nil) rfl rfl (by simp) (by decide)))
        (pss_cons (ps_set (i := 4) scInNeed.nd rfl (Or.inl rfl) (pe_lst (pa_cons (pv 1) pa_nil)))
        (pss_cons (ps_while PassesOwn.never (pt_truth (pv 4) (by intro _; rfl))
        (pss_cons (ps_set (i := 5) scInNeed.nd rfl (Or.inl rfl) (pe_bm0 PySem.F.plainAttrs_list PySem.F.slot_list_pop PySem.F.type_list_pop mt_pop (pv 4)))
        (pss_one (ps_for PassesOwn.never rfl (pi_list (pe_ix ix_list (pv 0) (pv 5) (fun _ _ => rfl))) (pg_tup rfl (pgs_cons (pg_name (i := 6) scInNeed.nd rfl (Or.inl rfl)) (pgs_cons (pg_name (i := 7) scInNeed.nd rfl (Or.inl rfl)) pgs_nil)))
          (pss_one (ps_if (PW.pt (pw_and (pt_cmpR op_ne (pv 6) (pv 2) (nomark _)) (pw_and1 (pt_cmp (pc_dnotin hu (pv 6) (pv 3))))))
          (pss_cons (ps_asg pe_bl (pg_sub (pv 3) (pv 6) (set_dict hu)))
        (pss_one (ps_expr (pe_bm PySem.F.plainAttrs_list PySem.F.slot_list_append PySem.F.type_list_append mt_append (pv 4) (pa_cons (pv 6) pa_nil))))) pss_nil))))))
        (pss_one (ps_ret (pe_callTy (call_list_dK rfl) (by rfl) B.list (by decide +kernel) (pa_cons (pv 3) pa_nil))))))), ?_⟩
    --E
    refine fun dt ndt => ⟨_, rfl, upd_same, [(Sum.inl ((v : Nat) : Int), .bl true)], rfl, (by show 1 ≤ 15; decide), ?_⟩
    have hd1 : (upd (upd H dt (.dK [])) dt (.dK (mergeK [] [(Sum.inl ((v : Nat) : Int), V.bl true)]))) dt = some (.dK (kvI [v])) := upd_same
    have s1 : Same H (upd (upd H dt (.dK [])) dt (.dK (mergeK [] [(Sum.inl ((v : Nat) : Int), V.bl true)]))) := jr_same.put (Same.new ndt) ndt
    generalize upd (upd H dt (.dK [])) dt (.dK (mergeK [] [(Sum.inl ((v : Nat) : Int), V.bl true)])) = H1 at s1 hd1 ⊢
    refine ⟨_, rfl, (by show 1 ≤ sizeLine; omega), fun w0 nw => ?_⟩
    have dw : dt ≠ w0 := ne_of_none hd1 nw
    have nw0 := none_of s1 nw
    have s2 := Same.new (o := .lst [V.int (v : Nat)]) nw
    have hw2 : (upd H1 w0 (.lst [V.int (v : Nat)])) w0 = some (.lst (iL [v].reverse)) := upd_same
    have hd2 := s2 _ _ hd1
    have s12 := s1.trans s2
    generalize upd H1 w0 (.lst [V.int (v : Nat)]) = H2 at s12 hd2 hw2 ⊢
    refine ⟨fun μ σ' G => ∃ (m st : List Nat) (g5 g6 g7 : Option V), μ = 2 * (ns.length - m.length) + st.length ∧ σ' = [some (.ref p), some (.int (v : Nat)), some (.int (f : Nat)), some (.ref dt), some (.ref w0), g5, g6, g7] ∧ Same H G ∧ G dt = some (.dK (kvI m)) ∧ G w0 = some (.lst (iL st.reverse)) ∧ Nds ns f v m st ∧ st.length ≤ m.length,
      ⟨_, [v], [v], none, none, none, rfl, rfl, s12, hd2, hw2, ⟨by simp, fun i hi => by rw [List.mem_singleton.mp hi]; exact hv, fun i hi => hi, List.mem_singleton.mpr rfl, fun i hi => by rw [List.mem_singleton.mp hi]; exact .var, fun i hi hn => absurd hi hn⟩, Nat.le_refl _⟩, ?_⟩
    rintro μ σ' G ⟨m, st, g5, g6, g7, rfl, rfl, sG, hd, hw, nds, l3⟩
    have lm := nd_len' nds.nd nds.lt
    refine ⟨.ref w0, rfl, !(iL st.reverse).isEmpty, .inl ⟨_, SqL.of hw, rfl⟩, ?_⟩
    cases st with
    | nil =>
      refine iteF ⟨_, rfl, dt, _, rfl, hd, fun r nr => ?_⟩
      refine q m r _ nds (sG.trans (Same.new nr)) (none_of sG nr) ?_
      have e : (kvI m).map (fun kv => kV kv.1) = iL m := by
        unfold kvI iL
        rw [List.map_map]
        rfl
      rw [e]
      exact upd_same
    | cons x st =>
      have es : ∀ (y : Nat) (l : List Nat), iL (y :: l).reverse = iL l.reverse ++ [V.int (y : Nat)] := fun y l => by
        unfold iL
        rw [List.reverse_cons, List.map_append]
        rfl
      rw [es] at hw ⊢
      have hx := nds.lt x (nds.sub x List.mem_cons_self)
      rw [show (!(iL st.reverse ++ [V.int (x : Nat)]).isEmpty) = true by simp]
      refine iteT ⟨fun σ2 G2 => ∃ (m2 st2 : List Nat), 2 * (ns.length - m2.length) + st2.length < 2 * (ns.length - m.length) + (x :: st).length ∧ ∃ g5 g6 g7 : Option V, σ2 = [some (.ref p), some (.int (v : Nat)), some (.int (f : Nat)), some (.ref dt), some (.ref w0), g5, g6, g7] ∧ Same H G2 ∧ G2 dt = some (.dK (kvI m2)) ∧ G2 w0 = some (.lst (iL st2.reverse)) ∧ Nds ns f v m2 st2 ∧ st2.length ≤ m2.length, ?_, ?_⟩
      · rintro σ2 G2 ⟨m2, st2, l2, g5, g6, g7, rest⟩
        exact ⟨_, l2, m2, st2, g5, g6, g7, rfl, rest⟩
      refine ⟨.ref w0, rfl, .inl ⟨rfl, _, SqL.of hw⟩, w0, _, .int (x : Nat), rfl, rfl, hw, by simp, ?_⟩
      rw [List.dropLast_concat]
      have sG1 : Same H (upd G w0 (.lst (iL st.reverse))) := jr_same.put sG nw0
      have hd1' : (upd G w0 (.lst (iL st.reverse))) dt = some (.dK (kvI m)) := by rw [upd_ne dw]; exact hd
      have hw1 : (upd G w0 (.lst (iL st.reverse))) w0 = some (.lst (iL st.reverse)) := upd_same
      generalize upd G w0 (.lst (iL st.reverse)) = G1 at sG1 hd1' hw1 ⊢
      have hLx : L[x]? = some (L[x]'(by rw [pr.len]; exact hx)) := List.getElem?_eq_getElem _
      generalize L[x]'(by rw [pr.len]; exact hx) = z at hLx
      obtain ⟨ps, rps, lps, q1, q2, _⟩ := pr.rd hg x z hLx
      have lz : z.2.length = ps.length := by rw [rps.length, List.length_map]
      have hz := hL z (List.mem_of_getElem? hLx)
      refine ⟨_, rfl, _, rfl, p, _, ((x : Nat) : Int), V.ref z.1, rfl, rfl, SqL.of (sG1 _ _ hp), atI_nat (j := x) (by rw [List.getElem?_map, hLx]; rfl), z.1, rfl, ⟨_, SqL.of (sG1 _ _ hz)⟩, ?_⟩
      refine for_list (xs := z.2) (fun t σ G2 => ∃ (m2 st2 : List Nat) (g6 g7 : Option V), 2 * (ns.length - m2.length) + st2.length < 2 * (ns.length - m.length) + (x :: st).length ∧ σ = [some (.ref p), some (.int (v : Nat)), some (.int (f : Nat)), some (.ref dt), some (.ref w0), some (.int (x : Nat)), g6, g7] ∧ Same H G2 ∧ G2 dt = some (.dK (kvI m2)) ∧ G2 w0 = some (.lst (iL st2.reverse)) ∧ Nds ns f v m2 (x :: st2) ∧ st2.length ≤ m2.length ∧ ∀ t' a, t' < t → ps[t']? = some a → a.1 = f ∨ a.1 ∈ m2) ?_ ?_ ?_ ?_
      · exact ⟨m, st, g6, g7, by rw [List.length_cons]; omega, rfl, sG1, hd1', hw1, nds, by rw [List.length_cons] at l3; omega, fun t' a h => by omega⟩
      · rintro t σ G2 _ ⟨m2, st2, g6, g7, _, rfl, s, _⟩
        exact SqL.of (s _ _ hz)
      · rintro t y σ G2 hy ⟨m2, st2, g6, g7, lμ, rfl, sG2, hd2', hw2', nds2, l4, hd4⟩
        obtain ⟨d, hdd, ry⟩ := rps.get hy
        rw [List.getElem?_map] at hdd
        obtain ⟨a, hat, rfl⟩ := Option.map_eq_some_iff.mp hdd
        obtain ⟨t0, xs, rfl, ht0, hxs, _⟩ := (Rdd.ex (Ex.same sG2) _ ry).tupd'
        obtain ⟨x1, x2, rfl, r1, r2⟩ := hxs.pair
        cases r1
        have hka := q1 a (List.mem_of_getElem? hat)
        have ha : a.1 < ns.length := by
          unfold kd at hka
          split at hka
          · rename_i e
            exact (List.getElem?_eq_some_iff.mp e).1
          · cases hka
        have lm2 := nd_len' nds2.nd nds2.lt
        refine ⟨t0, _, rfl, ht0, rfl, _, _, rfl, _, _, rfl, rfl, ?_⟩
        refine ⟨_, rfl, _, rfl, rfl, _, rfl, ?_⟩
        dsimp only
        rw [int_dec]
        have keepD : ∀ b : List Nat, (∀ t' a', t' < t → ps[t']? = some a' → a'.1 = f ∨ a'.1 ∈ m2) → (a.1 = f ∨ a.1 ∈ b) → (∀ i ∈ m2, i ∈ b) → ∀ t' a', t' < t + 1 → ps[t']? = some a' → a'.1 = f ∨ a'.1 ∈ b := fun b h0 h1 h2 t' a' ht' ha' => by
          by_cases e : t' = t
          · subst e
            rw [hat] at ha'
            rw [← Option.some.inj ha']
            exact h1
          · exact (h0 t' a' (by omega) ha').imp_right (h2 _)
        by_cases ef : a.1 = f
        · rw [decide_eq_true (by rw [ef])]
          exact iteF (iteF ⟨m2, st2, _, _, lμ, rfl, sG2, hd2', hw2', nds2, l4, keepD m2 hd4 (.inl ef) fun i h => h⟩)
        rw [decide_eq_false (p := ((a.1 : Nat) : Int) = ((f : Nat) : Int)) (fun z => ef (Int.ofNat.inj z))]
        obtain ⟨o, hgo, ho⟩ := kvI_get a.1 hd2'
        refine iteT ⟨_, rfl, _, rfl, dt, o, rfl, hgo, _, rfl, ?_⟩
        rw [ho]
        by_cases sm : a.1 ∈ m2
        · rw [decide_eq_true sm]
          exact iteF ⟨m2, st2, _, _, lμ, rfl, sG2, hd2', hw2', nds2, l4, keepD m2 hd4 (.inr sm) fun i h => h⟩
        rw [decide_eq_false sm]
        have nd2 : (m2 ++ [a.1]).Nodup := List.nodup_append.mpr ⟨nds2.nd, by simp, fun x hx y hy => by
          rw [List.mem_singleton.mp hy]
          exact fun z => sm (z ▸ hx)⟩
        have lt2 : ∀ i ∈ m2 ++ [a.1], i < ns.length := fun i hi => by
          rcases List.mem_append.mp hi with hi | hi
          · exact nds2.lt i hi
          · rw [List.mem_singleton.mp hi]
            exact ha
        have lmn := nd_len' nd2 lt2
        rw [List.length_append, List.length_singleton] at lmn
        refine iteT ⟨_, rfl, _, rfl, dt, _, rfl, DPut.k (k := Sum.inl ((a.1 : Nat) : Int)) hd2' (by rw [kvI_len]; omega), ?_⟩
        rw [kvI_put sm]
        have sG3 : Same H (upd G2 dt (.dK (kvI (m2 ++ [a.1])))) := jr_same.put sG2 ndt
        have hd3 : (upd G2 dt (.dK (kvI (m2 ++ [a.1])))) dt = some (.dK (kvI (m2 ++ [a.1]))) := upd_same
        have hw3 : (upd G2 dt (.dK (kvI (m2 ++ [a.1])))) w0 = some (.lst (iL st2.reverse)) := by rw [upd_ne (Ne.symm dw)]; exact hw2'
        generalize upd G2 dt (.dK (kvI (m2 ++ [a.1]))) = G3 at sG3 hd3 hw3 ⊢
        have lst' : (iL st2.reverse).length = st2.length := by
          unfold iL
          rw [List.length_map, List.length_reverse]
        refine ⟨_, rfl, .inl ⟨rfl, _, SqL.of hw3⟩, _, rfl, w0, _, _, rfl, rfl, hw3, by omega, ?_⟩
        rw [← es]
        rw [List.length_cons] at lμ l3
        refine ⟨m2 ++ [a.1], a.1 :: st2, _, _, by simp only [List.length_append, List.length_cons, List.length_nil]; omega, rfl, jr_same.put sG3 nw0, by rw [upd_ne dw]; exact hd3, upd_same, ⟨nd2, lt2, fun i hi => ?_, List.mem_append_left _ nds2.has, fun i hi => ?_, fun i hi hni j hij hjf => ?_⟩, by simp only [List.length_append, List.length_cons, List.length_nil]; omega, keepD _ hd4 (.inr (List.mem_append_right _ (List.mem_singleton.mpr rfl))) fun i h => List.mem_append_left _ h⟩
        · rcases List.mem_cons.mp hi with rfl | hi
          · exact List.mem_append_left _ (nds2.sub _ List.mem_cons_self)
          · rcases List.mem_cons.mp hi with rfl | hi
            · exact List.mem_append_right _ (List.mem_singleton.mpr rfl)
            · exact List.mem_append_left _ (nds2.sub _ (List.mem_cons_of_mem _ hi))
        · rcases List.mem_append.mp hi with hi | hi
          · exact nds2.sound i hi
          · rw [List.mem_singleton.mp hi]
            exact .up (nds2.sound x (nds2.sub x List.mem_cons_self)) hka ef
        · rcases List.mem_append.mp hi with hi | hi
          · refine List.mem_append_left _ (nds2.full i hi (fun z => hni ?_) j hij hjf)
            rcases List.mem_cons.mp z with z | z
            · exact z ▸ List.mem_cons_self
            · exact List.mem_cons_of_mem _ (List.mem_cons_of_mem _ z)
          · exact absurd (by rw [List.mem_singleton.mp hi]; exact List.mem_cons_of_mem _ List.mem_cons_self) hni
      · rintro σ G2 ⟨m2, st2, g6, g7, lμ, rfl, sG2, hd2', hw2', nds2, l4, hd4⟩
        refine ⟨m2, st2, lμ, _, g6, g7, rfl, sG2, hd2', hw2', ⟨nds2.nd, nds2.lt, fun i hi => nds2.sub i (List.mem_cons_of_mem _ hi), nds2.has, nds2.sound, fun i hi hni j hij hjf => ?_⟩, l4⟩
        by_cases ex : i = x
        · subst ex
          have hj : j < ns.length := by
            unfold kd at hij
            split at hij
            · rename_i e
              exact (List.getElem?_eq_some_iff.mp e).1
            · cases hij
          obtain ⟨k, hk⟩ := q2 j hj hij
          obtain ⟨t', ht', e⟩ := List.getElem_of_mem hk
          rcases hd4 t' (j, k) (by omega) (by rw [List.getElem?_eq_getElem ht', e]) with h | h
          · exact absurd h hjf
          · exact h
        · exact nds2.full i hi (fun z => by
            rcases List.mem_cons.mp z with z | z
            · exact ex z
            · exact hni z) j hij hjf
end
end Sl

set_option Elab.async false
set_option linter.all false
set_option maxRecDepth 100000
set_option maxHeartbeats 400000
/-! ## needs_of -/
namespace Sl
open PySem PySem.Spec PyProof.Rows L2
abbrev sNeeds : Stmt := topT 24
theorem scNeeds : FnScope ["nodes", "parents", "needs", "number", "variables", "function", "variable", "_", "node", "row"] ["nodes"] (defScope sNeeds) := ⟨rfl, rfl, rfl, by decide +kernel, rfl, by decide +kernel, by decide +kernel⟩
open Classical in
/-- of these (function, variable) the functions that i needs -/
noncomputable def nrow (ns : List GN) (l : List (Nat × Nat)) (i : Nat) : List Nat := (l.filter fun p => decide (Nd ns p.1 p.2 i)).map (·.1)
open Classical in
theorem nrow_mem {ns : List GN} {l : List (Nat × Nat)} {i f : Nat} : f ∈ nrow ns l i ↔ ∃ v, (f, v) ∈ l ∧ Nd ns f v i := by
  unfold nrow
  rw [List.mem_map]
  constructor
  · rintro ⟨p, hp, rfl⟩
    obtain ⟨h1, h2⟩ := List.mem_filter.mp hp
    exact ⟨p.2, h1, of_decide_eq_true h2⟩
  · rintro ⟨v, h1, h2⟩
    exact ⟨(f, v), List.mem_filter.mpr ⟨h1, decide_eq_true h2⟩, rfl⟩
open Classical in
theorem nrow_snoc {ns : List GN} {l : List (Nat × Nat)} {p : Nat × Nat} {i : Nat} : (Nd ns p.1 p.2 i → nrow ns (l ++ [p]) i = nrow ns l i ++ [p.1]) ∧ (¬ Nd ns p.1 p.2 i → nrow ns (l ++ [p]) i = nrow ns l i) := by
  unfold nrow
  rw [List.filter_append, List.map_append]
  constructor
  · intro h
    rw [List.filter_cons_of_pos (by exact decide_eq_true h)]
    rfl
  · intro h
    rw [List.filter_cons_of_neg (by simp only [decide_eq_true_eq]; exact h)]
    simp
open Classical in
theorem nrow_le (ns : List GN) (l : List (Nat × Nat)) (i : Nat) : (nrow ns l i).length ≤ l.length := by
  unfold nrow
  rw [List.length_map]
  exact List.length_filter_le ..
abbrev rTupOf (K : PySem.W.Frag) : List V → Hp → VK → Prop := fun xs H Q => ∃ p ys, xs = [.ref p] ∧ ((SqL K H p ys ∧ ∀ l, H l = none → Q (.ref l) (upd H l (.tup ys))) ∨ (SqT K H p ys ∧ Q (.ref p) H))
/-- the functions that i needs, ascending -/
structure Row (ns : List GN) (i : Nat) (r : List Nat) : Prop where
  asc : r.Pairwise (· < ·)
  mem : ∀ f, f ∈ r ↔ ∃ v, ns[v]? = some (.V f) ∧ Nd ns f v i
theorem asc_one : ∀ {a b : List Nat}, a.Pairwise (· < ·) → b.Pairwise (· < ·) → (∀ x, x ∈ a ↔ x ∈ b) → a = b
  | [], [], _, _, _ => rfl
  | [], y :: b, _, _, h => by
    have := (h y).mpr List.mem_cons_self
    cases this
  | x :: a, [], _, _, h => by
    have := (h x).mp List.mem_cons_self
    cases this
  | x :: a, y :: b, ha, hb, h => by
    have ⟨a1, a2⟩ := List.pairwise_cons.mp ha
    have ⟨b1, b2⟩ := List.pairwise_cons.mp hb
    have e : x = y := by
      rcases List.mem_cons.mp ((h x).mp List.mem_cons_self) with e | e
      · exact e
      · rcases List.mem_cons.mp ((h y).mpr List.mem_cons_self) with e2 | e2
        · exact e2.symm
        · have := a1 y e2
          have := b1 x e
          omega
    subst e
    refine congrArg (x :: ·) (asc_one a2 b2 fun z => ⟨fun hz => ?_, fun hz => ?_⟩)
    · rcases List.mem_cons.mp ((h z).mp (List.mem_cons_of_mem _ hz)) with e | e
      · have := a1 z hz
        omega
      · exact e
    · rcases List.mem_cons.mp ((h z).mpr (List.mem_cons_of_mem _ hz)) with e | e
      · have := b1 z hz
        omega
      · exact e
theorem Row.one {ns : List GN} {i : Nat} {a b : List Nat} (h : Row ns i a) (h' : Row ns i b) : a = b := asc_one h.asc h'.asc fun x => by rw [h.mem, h'.mem]
def vl (ns : List GN) (i : Nat) : List (Nat × Nat) := (List.range i).filterMap fun j => (nAt ns j).own.map fun f => (f, j)
theorem vl_succ (ns : List GN) (i : Nat) : vl ns (i + 1) = vl ns i ++ ((nAt ns i).own.map fun f => (f, i)).toList := by
  unfold vl
  rw [List.range_succ, List.filterMap_append]
  congr 1
theorem vl_at {ns : List GN} {f v : Nat} : (f, v) ∈ vl ns ns.length ↔ ns[v]? = some (.V f) := by
  unfold vl
  rw [List.mem_filterMap]
  constructor
  · rintro ⟨j, hj, e⟩
    have hlt := List.mem_range.mp hj
    cases hg : nAt ns j with
    | V f2 =>
      rw [hg] at e
      have e' : some (f2, j) = some (f, v) := e
      cases e'
      rw [nAt_get hlt, hg]
    | W x cs => rw [hg] at e; cases e
    | F c => rw [hg] at e; cases e
  · intro h
    have hlt := (List.getElem?_eq_some_iff.mp h).1
    have e : nAt ns v = .V f := Option.some.inj ((nAt_get hlt).symm.trans h)
    exact ⟨v, List.mem_range.mpr hlt, by rw [e]; rfl⟩
theorem vl_asc (ns : List GN) (i : Nat) : (vl ns i).Pairwise fun p q => p.2 < q.2 := by
  unfold vl
  refine List.Pairwise.filterMap _ (fun a b hab p hp q hq => ?_) List.pairwise_lt_range
  cases ha : (nAt ns a).own with
  | none => rw [ha] at hp; cases hp
  | some f =>
    cases hb : (nAt ns b).own with
    | none => rw [hb] at hq; cases hq
    | some g =>
      rw [ha] at hp
      rw [hb] at hq
      cases hp
      cases hq
      exact hab
theorem vl_len (ns : List GN) (i : Nat) : (vl ns i).length ≤ i := by
  unfold vl
  have := List.length_filterMap_le (fun j => (nAt ns j).own.map fun f => (f, j)) (List.range i)
  rwa [List.length_range] at this
/-- sorted pairs, each function once -/
structure Srt (ns : List GN) (ws : List (Nat × Nat)) : Prop where
  asc : ws.Pairwise fun p q => p.1 < q.1
  mem : ∀ f v, (f, v) ∈ ws ↔ ns[v]? = some (.V f)
theorem srt_of {ns : List GN} {ws : List (Nat × Nat)} (ho : (own ns).Nodup) (p : ws.Perm (vl ns ns.length)) (h : ws.Pairwise fun p q => p.1 ≤ q.1) : Srt ns ws := by
  have hm : ∀ f v, (f, v) ∈ ws ↔ ns[v]? = some (.V f) := fun f v => by rw [p.mem_iff, vl_at]
  have nd : ws.Nodup := p.nodup_iff.mpr ((vl_asc ns ns.length).imp fun h z => by rw [z] at h; omega)
  refine ⟨?_, hm⟩
  refine (h.and nd).imp_of_mem fun {a b} ha hb z => ?_
  rcases Nat.lt_or_ge a.1 b.1 with l | l
  · exact l
  · have e : a.1 = b.1 := by omega
    have h1 := (hm a.1 a.2).mp ha
    have h2 := (hm b.1 b.2).mp hb
    rw [← e] at h2
    exact absurd (Prod.ext e (own_inj ho h1 h2)) z.2
theorem Srt.row {ns : List GN} {ws : List (Nat × Nat)} (h : Srt ns ws) (i : Nat) : Row ns i (nrow ns ws i) := by
  refine ⟨?_, fun f => ?_⟩
  · unfold nrow
    exact List.pairwise_map.mpr (h.asc.filter _)
  · rw [nrow_mem]
    exact exists_congr fun v => by rw [h.mem]
section
variable {P : Program} {w : World} {K : PySem.W.Frag} {mg : Str → Option Value} {base : Heap} {fWh fBe fNm fKd fWk fRw fPo fNd fAn : Addr} {dWh dBe dNm dKd dWk dRw dPo dNd dAn : FuncData}
def RowsAt (K : PySem.W.Frag) (H : Hp) (p : Addr) (R : List (List Nat)) : Prop := ∃ ys, H p = some (.lst ys) ∧ RddAll K H ys (R.map fun r => .tup (iD r))
structure RowsOk (ns : List GN) (R : List (List Nat)) : Prop where
  len : R.length = ns.length
  row : ∀ i r, R[i]? = some r → Row ns i r
def spNeeds (K : PySem.W.Frag) : Sp := fun vs H Q _ => ∃ (u : V) (ns : List GN), vs = [u] ∧ Rdd K H u (.tup (ns.map ndD)) ∧ (∀ g ∈ ns, Rng ns.length g) ∧ (own ns).Nodup ∧ ns.length ≤ 4000 ∧
  ∀ p H' R, Same H H' → H p = none → RowsAt K H' p R → RowsOk ns R → Q (.ref p) H'
theorem ok_needs (N : Gn K mg fWh fBe fNm fKd fWk fRw fPo fNd fAn dWh dBe dNm dKd dWk dRw dPo dNd dAn) {f fPa fIn : Addr} {fd fdPa fdIn : FuncData} (F : Fun K "needs_of" "needs_of" sNeeds f fd)
    (FPa : Fun K "parents_of" "parents_of" sParents fPa fdPa) (bPa : Binds K fdPa ["nodes"] []) (gPa : mg "parents_of" = some (.ref fPa)) (FIn : Fun K "_in_need" "_in_need" sInNeed fIn fdIn) (bIn : Binds K fdIn ["parents", "variable", "function"] []) (gIn : mg "_in_need" = some (.ref fIn)) (B : Bt mg) :
    FnOk P w K mg base CX0 3 f fd ["nodes"] (spNeeds K) := by
  have GP : FnOk P w K mg base CX0 2 fPa fdPa ["nodes"] (spParents K) := ok_parents N FPa B
  have GI : FnOk P w K mg base CX0 1 fIn fdIn ["parents", "variable", "function"] (spInNeed K) := ok_inNeed FIn B
  refine F.ok scNeeds (fun vs H Q E h => ?_) (fun cdv A outer s H vs Q E hr h => ?_)
  · obtain ⟨u, ns, rfl, _⟩ := h
    rfl
  · obtain ⟨u, ns, rfl, hu, hg, ho, hn, q⟩ := h
    have h1 := hr.mono (by decide : 1 ≤ 2)
    have sl := sizeLine_eq
    --D
    refine ⟨_, (pss_cons (ps_set (i := 1) scNeeds.nd rfl (Or.inl rfl) (pe_call GP hr (by rfl) gPa FPa.kp bPa .nil pass0 (pa_cons (pv 0) pa_nil)))
        (pss_cons (ps_setLc (i := 2) (own := [("_", 7)]) (g := gName 7) (tt := tYes) (te := tLst tNil) rfl scNeeds.nd rfl rfl (sw_true rfl rfl rfl (by decide +kernel)) (pi_tup (pv 0)) (blkOk_by (own := [("_", 7)]) (N := ["nodes", "parents", "needs", "number", "variables", "function", "variable", "_", "node", "row"]) (sc := defScope sNeeds) (by decide +kernel)) (fun _ _ _ _ _ => pg_name (i := 7) scNeeds.nd rfl (Or.inl rfl)) (fun _ _ _ _ _ => pts_nil) (fun _ _ _ _ _ => by exact pe_lst pa_nil))
        (pss_cons (ps_setLc (i := 4) (own := [("number", 3), ("node", 8)]) (g := (gTup K 2 (gCons (gName 3) (gCons (gName 8) gNil)))) (tt := tTest (tOp rEq (tOp (rIxT K) (tVar 8) (tC (.int 0))) (tC (.str "var")))) (te := tTup (tCons (tOp (rIxT K) (tVar 8) (tC (.int 1))) (tCons (tVar 3) tNil))) rfl scNeeds.nd rfl rfl (sw_true rfl rfl rfl (by decide +kernel)) (pi_enumT (by rfl) B.enum (pa_cons (pv 0) pa_nil)) (blkOk_by (own := [("number", 3), ("node", 8)]) (N := ["nodes", "parents", "needs", "number", "variables", "function", "variable", "_", "node", "row"]) (sc := defScope sNeeds) (by decide +kernel)) (fun _ _ _ _ _ => (pg_tup rfl (pgs_cons (pg_name (i := 3) scNeeds.nd rfl (Or.inl rfl)) (pgs_cons (pg_name (i := 8) scNeeds.nd rfl (Or.inl rfl)) pgs_nil)))) (fun _ _ _ _ _ => pts_one (by exact (pt_cmpR op_eq (pe_ix ix_tup (pv 8) pe_int (fun _ _ => rfl)) pe_str (nomark _)))) (fun _ _ _ _ _ => by exact (pe_tup (pa_cons (pe_ix ix_tup (pv 8) pe_int (fun _ _ => rfl)) (pa_cons (pv 3) pa_nil)))))
        (pss_cons (ps_for PassesOwn.never rfl (pi_list (pe_callB cr_sortedPO (by rfl) B.sorted (by decide +kernel) (pa_cons (pv 4) pa_nil))) (pg_tup rfl (pgs_cons (pg_name (i := 5) scNeeds.nd rfl (Or.inl rfl)) (pgs_cons (pg_name (i := 6) scNeeds.nd rfl (Or.inl rfl)) pgs_nil)))
          (pss_one (ps_for PassesOwn.never rfl (pi_list (pe_call GI h1 (by rfl) gIn FIn.kp bIn .nil pass0 (pa_cons (pv 1) (pa_cons (pv 6) (pa_cons (pv 5) pa_nil))))) (pg_name (i := 3) scNeeds.nd rfl (Or.inl rfl))
          (pss_one (ps_expr (pe_bm PySem.F.plainAttrs_list PySem.F.slot_list_append PySem.F.type_list_append mt_append (pe_ix ix_list (pv 2) (pv 3) (fun _ _ => rfl)) (pa_cons (pv 5) pa_nil)))))))
        (pss_one (ps_ret (pe_lc (own := [("row", 9)]) (g := gName 9) (tt := tYes) (te := tCB (rTupOf K) (tCons (tVar 9) tNil)) rfl scNeeds.nd (pi_list (pv 2)) (blkOk_by (own := [("row", 9)]) (N := ["nodes", "parents", "needs", "number", "variables", "function", "variable", "_", "node", "row"]) (sc := defScope sNeeds) (by decide +kernel)) (fun _ _ _ _ _ => pg_name (i := 9) scNeeds.nd rfl (Or.inl rfl)) (fun _ _ _ _ _ => pts_nil) (fun _ _ _ _ _ => by exact (pe_callTy call_tuple_of (by rfl) B.tuple (by decide +kernel) (pa_cons (pv 9) pa_nil)))))))))), ?_⟩
    --E
    have hu' := hu
    obtain ⟨b0, us, rfl, hsu, hxu, _⟩ := hu'.tupd'
    have lu : us.length = ns.length := by rw [hxu.length, List.length_map]
    refine ⟨_, rfl, .ref b0, ns, rfl, hu, hg, hn, fun p1 H1 L t1 pr => ?_⟩
    have s1 := t1.same
    have hp1 := t1.at (i := 0) (a := p1) (l := L.map fun z => V.ref z.1) rfl
    refine ⟨_, rfl, b0, rfl, ⟨_, (Ex.same s1).tup hsu⟩, fun D0 nD => ?_⟩
    refine lcNew (by omega) ((Ex.same s1).tup hsu) nD ?_ ?_
    · intro x G Q2 Z2 hQ
      refine ⟨rfl, ?_⟩
      exact iteT (B := Z2 G) ⟨(by show 0 ≤ sizeLine; omega), fun p np => hQ p np⟩
    intro H2 as la t2
    have s2 := t2.same
    have s02 := s1.trans s2
    -- variables
    refine ⟨_, rfl, b0, us, rfl, (Ex.same s02).tup hsu, fun D1 nD1 => ?_⟩
    refine lcET (xs := us) (fun i G => Same H2 G ∧ ∃ ts : List Addr, G D1 = some (.lst (ts.map V.ref)) ∧ ts.length = (vl ns i).length ∧ ∀ (j : Nat) t p, ts[j]? = some t → (vl ns i)[j]? = some p → G t = some (.tup [.int (p.1 : Nat), .int (p.2 : Nat)])) ?_ ?_ ?_ ?_ ?_
    · exact ⟨jr_same.put (Same.refl _) nD1, [], upd_same, rfl, fun j t p h => by simp at h⟩
    · rintro i G ⟨sG, _⟩
      exact (Ex.same (s02.trans sG)).tup hsu
    · rintro i G T x ⟨sG, ts, h2, h3, h4⟩ nT
      have sT := Same.new (o := .tup [V.int (i : Nat), x]) nT
      exact ⟨sG.trans sT, ts, sT _ _ h2, h3, fun j t p a b => sT _ _ (h4 j t p a b)⟩
    · rintro i x T G hx ⟨sG, ts, h2, h3, h4⟩ hT
      obtain ⟨d, hd, rx⟩ := hxu.get hx
      rw [List.getElem?_map] at hd
      obtain ⟨g, hgi, rfl⟩ := Option.map_eq_some_iff.mp hd
      have hi := (List.getElem?_eq_some_iff.mp hgi).1
      have eg : nAt ns i = g := Option.some.inj ((nAt_get hi).symm.trans hgi)
      have rx := Rdd.ex (Ex.same (s02.trans sG)) _ rx
      have lvl := vl_len ns i
      refine ⟨T, _, rfl, SqT.of hT, rfl, _, _, rfl, _, _, rfl, rfl, rfl, ?_⟩
      have skip : g.own = none → vl ns (i + 1) = vl ns i := fun e => by
        rw [vl_succ, eg, e]
        exact List.append_nil _
      cases g with
      | W y cs =>
        obtain ⟨a0, xs, rfl, hs, hx, _⟩ := rx.tupd'
        obtain ⟨x1, x2, x3, rfl, r1, r2, r3⟩ := hx.trip
        cases r1
        refine ⟨_, rfl, a0, _, (0 : Int), _, rfl, rfl, hs, atI_nat (j := 0) rfl, rfl, _, rfl, ?_⟩
        rw [str_dec, decide_eq_false (by decide +kernel)]
        refine iteF ⟨sG, ts, h2, ?_⟩
        rw [skip rfl]
        exact ⟨h3, h4⟩
      | F c =>
        obtain ⟨a0, xs, rfl, hs, hx, _⟩ := rx.tupd'
        obtain ⟨x1, x2, rfl, r1, r2⟩ := hx.pair
        cases r1
        refine ⟨_, rfl, a0, _, (0 : Int), _, rfl, rfl, hs, atI_nat (j := 0) rfl, rfl, _, rfl, ?_⟩
        rw [str_dec, decide_eq_false (by decide +kernel)]
        refine iteF ⟨sG, ts, h2, ?_⟩
        rw [skip rfl]
        exact ⟨h3, h4⟩
      | V f2 =>
        obtain ⟨a0, xs, rfl, hs, hx, _⟩ := rx.tupd'
        obtain ⟨x1, x2, rfl, r1, r2⟩ := hx.pair
        cases r1
        cases r2
        refine ⟨_, rfl, a0, _, (0 : Int), _, rfl, rfl, hs, atI_nat (j := 0) rfl, rfl, _, rfl, ?_⟩
        rw [str_dec, decide_eq_true rfl]
        have es : vl ns (i + 1) = vl ns i ++ [(f2, i)] := by
          rw [vl_succ, eg]
          rfl
        refine iteT ⟨_, rfl, a0, _, (1 : Int), _, rfl, rfl, hs, atI_nat (j := 1) rfl, _, rfl, (by show 2 ≤ sizeLine; omega), fun p np => ?_⟩
        have s3 := Same.new (o := .tup [V.int (f2 : Nat), .int (i : Nat)]) np
        have hp3 : (upd G p (.tup [V.int (f2 : Nat), .int (i : Nat)])) p = some (.tup [V.int (f2 : Nat), .int (i : Nat)]) := upd_same
        generalize upd G p (.tup [V.int (f2 : Nat), .int (i : Nat)]) = G3 at s3 hp3 ⊢
        refine ⟨_, s3 _ _ h2, by rw [List.length_map]; omega, jr_same.put (sG.trans s3) nD1, ts ++ [p], by rw [List.map_append]; exact upd_same, by rw [es, List.length_append, List.length_append, h3]; rfl, fun j t q hj hq => ?_⟩
        have keep : ∀ t0 a b, G3 t0 = some (.tup [a, b]) → (upd G3 D1 (.lst (ts.map V.ref ++ [V.ref p]))) t0 = some (.tup [a, b]) := fun t0 a b e => by
          rw [upd_ne (fun z => by rw [z, s3 _ _ h2] at e; cases e)]
          exact e
        rw [es] at hq
        by_cases hjl : j < ts.length
        · rw [List.getElem?_append_left hjl] at hj
          rw [List.getElem?_append_left (by omega)] at hq
          exact keep _ _ _ (s3 _ _ (h4 j t q hj hq))
        · have ej : j = ts.length := by
            have := (List.getElem?_eq_some_iff.mp hj).1
            rw [List.length_append, List.length_singleton] at this
            omega
          subst ej
          rw [List.getElem?_append_right (Nat.le_refl _), Nat.sub_self] at hj
          rw [h3, List.getElem?_append_right (Nat.le_refl _), Nat.sub_self] at hq
          cases hj
          cases hq
          exact keep _ _ _ hp3
    rintro H3 ⟨s3, ts, hD1, lts, hts⟩
    rw [lu] at lts hts
    have lvl := vl_len ns ns.length
    -- sorted(variables)
    let kk : V → Int × Int := fun x => match x with
      | .ref t => match H3 t with
        | some (.tup [.int a, .int b]) => (a, b)
        | _ => (0, 0)
      | _ => (0, 0)
    have hkk : ∀ (j : Nat) t p, ts[j]? = some t → (vl ns ns.length)[j]? = some p → kk (.ref t) = (((p.1 : Nat) : Int), ((p.2 : Nat) : Int)) := fun j t p a b => by
      show (match H3 t with | some (.tup [.int a, .int b]) => (a, b) | _ => (0, 0)) = _
      rw [hts j t p a b]
    have pk : (ts.map V.ref).map (fun x => ((kk x).1.toNat, (kk x).2.toNat)) = vl ns ns.length := by
      apply List.ext_getElem?
      intro j
      rw [List.getElem?_map, List.getElem?_map]
      by_cases hj : j < ts.length
      · rw [List.getElem?_eq_getElem hj, List.getElem?_eq_getElem (by omega)]
        show some ((kk (V.ref ts[j])).1.toNat, (kk (V.ref ts[j])).2.toNat) = _
        rw [hkk j _ _ (List.getElem?_eq_getElem hj) (List.getElem?_eq_getElem (by omega))]
        rfl
      · rw [List.getElem?_eq_none (by omega), List.getElem?_eq_none (by omega)]
        rfl
    have each : ∀ x ∈ ts.map V.ref, ∃ (t : Addr) (p : Nat × Nat), x = V.ref t ∧ H3 t = some (.tup [.int (p.1 : Nat), .int (p.2 : Nat)]) ∧ kk x = (((p.1 : Nat) : Int), ((p.2 : Nat) : Int)) := fun x hx => by
      obtain ⟨t, ht, rfl⟩ := List.mem_map.mp hx
      obtain ⟨j, hj, e⟩ := List.getElem_of_mem ht
      have a := List.getElem?_eq_getElem hj
      rw [e] at a
      have b : (vl ns ns.length)[j]? = some ((vl ns ns.length)[j]'(by omega)) := List.getElem?_eq_getElem _
      exact ⟨t, _, rfl, hts j t _ a b, hkk j t _ a b⟩
    refine ⟨_, rfl, D1, ts.map V.ref, kk, rfl, SqL.of hD1, fun x hx => ?_, fun ys p2 srt stb np2 => ?_⟩
    · obtain ⟨t, p, e1, e2, e3⟩ := each x hx
      exact ⟨t, e1, by rw [e3]; exact e2⟩
    have s4 := Same.new (o := .lst ys) np2
    have t4 : TrN H1 (upd H3 p2 (.lst ys)) ((p2, ys) :: (D0, as.map V.ref) :: as.map fun p => (p, [])) := (t2.go s3).cons np2
    have each4 : ∀ y ∈ ys, ∃ (t : Addr) (p : Nat × Nat), y = V.ref t ∧ (upd H3 p2 (.lst ys)) t = some (.tup [.int (p.1 : Nat), .int (p.2 : Nat)]) ∧ kk y = (((p.1 : Nat) : Int), ((p.2 : Nat) : Int)) := fun y hy => by
      obtain ⟨t, p, e1, e2, e3⟩ := each y (stb.perm.mem_iff.mp hy)
      exact ⟨t, p, e1, s4 _ _ e2, e3⟩
    have pw : (ys.map fun x => ((kk x).1.toNat, (kk x).2.toNat)).Perm (vl ns ns.length) := by
      rw [← pk]
      exact stb.perm.map _
    have sw : Srt ns (ys.map fun x => ((kk x).1.toNat, (kk x).2.toNat)) := by
      refine srt_of ho pw (List.pairwise_map.mpr (srt.imp fun {a b} h => ?_))
      show (kk a).1.toNat ≤ (kk b).1.toNat
      have h' : SrtO.lexB (kk b) (kk a) = false := h
      rcases Int.lt_or_le (kk b).1 (kk a).1 with l | l
      · rw [SrtO.lexB_iff.mpr (.inl l)] at h'
        cases h'
      · omega
    have wat : ∀ t y, ys[t]? = some y → (ys.map fun x => ((kk x).1.toNat, (kk x).2.toNat))[t]? = some ((kk y).1.toNat, (kk y).2.toNat) := fun t y h => by rw [List.getElem?_map, h]; rfl
    have lws : (ys.map fun x => ((kk x).1.toNat, (kk x).2.toNat)).length = ys.length := List.length_map ..
    have lyn : ys.length ≤ ns.length := by rw [← lws, pw.length_eq]; exact lvl
    generalize ys.map (fun x => ((kk x).1.toNat, (kk x).2.toNat)) = ws at pw sw wat lws
    generalize upd H3 p2 (.lst ys) = H4 at s4 t4 each4 ⊢
    have p4 := t4.at (i := 0) (a := p2) (l := ys) rfl
    refine ⟨p2, rfl, ⟨_, SqL.of p4⟩, ?_⟩
    have lnr : ∀ t i, (nrow ns (ws.take t) i).length ≤ ns.length := fun t i => by
      have h1 := nrow_le ns (ws.take t) i
      have h2 : (ws.take t).length ≤ ws.length := by rw [List.length_take]; omega
      omega
    refine for_list (xs := ys) (fun t σ G => ∃ (g3 g5 g6 : Option V) (M : LsN), σ = [some (.ref b0), some (.ref p1), some (.ref D0), g3, some (.ref D1), g5, g6, none, none, none] ∧ Ex H4 G ∧ TrN H1 G ((p2, ys) :: (D0, as.map V.ref) :: M) ∧ M.map (·.1) = as ∧ ∀ i z, M[i]? = some z → z.2 = iL (nrow ns (ws.take t) i)) ?_ ?_ ?_ ?_
    · refine ⟨_, none, none, _, rfl, Ex.refl _, t4, ?_, fun i z hz => ?_⟩
      · rw [List.map_map]
        exact List.map_id _
      · rw [List.getElem?_map] at hz
        obtain ⟨p, _, rfl⟩ := Option.map_eq_some_iff.mp hz
        rfl
    · rintro t σ G _ ⟨g3, g5, g6, M, rfl, x, tr, _⟩
      exact SqL.of (tr.at (i := 0) (a := p2) (l := ys) rfl)
    · rintro t y σ G hy ⟨g3, g5, g6, M, rfl, xG, tr, eM, hM⟩
      obtain ⟨tt, p, rfl, htt, ekk⟩ := each4 y (List.mem_of_getElem? hy)
      have hwt := wat t _ hy
      rw [ekk] at hwt
      have hwt : ws[t]? = some p := hwt
      have hv : ns[p.2]? = some (.V p.1) := (sw.mem p.1 p.2).mp (List.mem_of_getElem? hwt)
      have hvl := (List.getElem?_eq_some_iff.mp hv).1
      refine ⟨tt, _, rfl, xG.tup (SqT.of htt), rfl, _, _, rfl, _, _, rfl, rfl, ?_⟩
      have sG := tr.same
      refine ⟨_, rfl, _, rfl, _, rfl, p1, L, ns, p.2, p.1, rfl, sG _ _ hp1, fun z hz => sG _ _ (t1.hold z (List.mem_cons_of_mem _ hz)), pr.ex (.same sG), hg, hvl, hn, fun m r G1 nds sG1 nr hr1 => ?_⟩
      have tr1 : TrN H1 G1 ((r, iL m) :: (p2, ys) :: (D0, as.map V.ref) :: M) := (tr.go sG1).known (none_of sG nr) hr1 fun x hx z => by
        have := tr.hold x hx
        rw [z, nr] at this
        cases this
      refine ⟨r, rfl, ⟨_, SqL.of hr1⟩, ?_⟩
      have lim : (iL m).length = m.length := List.length_map ..
      refine for_list (xs := iL m) (fun k σ G2 => ∃ (g3 : Option V) (M2 : LsN), σ = [some (.ref b0), some (.ref p1), some (.ref D0), g3, some (.ref D1), some (.int (p.1 : Nat)), some (.int (p.2 : Nat)), none, none, none] ∧ Ex G1 G2 ∧ TrN H1 G2 ((r, iL m) :: (p2, ys) :: (D0, as.map V.ref) :: M2) ∧ M2.map (·.1) = as ∧ ∀ i z, M2[i]? = some z → z.2 = iL (nrow ns (ws.take t) i ++ if i ∈ m.take k then [p.1] else [])) ?_ ?_ ?_ ?_
      · refine ⟨g3, M, rfl, Ex.refl _, tr1, eM, fun i z hz => ?_⟩
        rw [List.take_zero, if_neg (by simp), List.append_nil]
        exact hM i z hz
      · rintro k σ G2 _ ⟨g3, M2, rfl, x2, tr2, _⟩
        exact SqL.of (tr2.at (i := 0) (a := r) (l := iL m) rfl)
      · rintro k y σ G2 hyk ⟨g3, M2, rfl, x2, tr2, eM2, hM2⟩
        unfold iL at hyk
        rw [List.getElem?_map] at hyk
        obtain ⟨i, hik, rfl⟩ := Option.map_eq_some_iff.mp hyk
        have hi := nds.lt i (List.mem_of_getElem? hik)
        have lM2 : M2.length = ns.length := by
          have := congrArg List.length eM2
          rw [List.length_map, la, lu] at this
          exact this
        have hMi : M2[i]? = some (M2[i]'(by omega)) := List.getElem?_eq_getElem _
        generalize M2[i]'(by omega) = z at hMi
        have hz2 := tr2.at (i := i + 3) (a := z.1) (l := z.2) hMi
        have ez := hM2 i z hMi
        have nik : i ∉ m.take k := fun hm => by
          obtain ⟨j, hj, e⟩ := List.getElem_of_mem hm
          rw [List.length_take] at hj
          rw [List.getElem_take] at e
          obtain ⟨h1, h2⟩ := List.getElem?_eq_some_iff.mp hik
          have := (List.getElem_inj nds.nd).mp (e.trans h2.symm)
          omega
        rw [if_neg nik, List.append_nil] at ez
        have lz : z.2.length ≤ ns.length := by
          rw [ez]
          unfold iL
          rw [List.length_map]
          exact lnr t i
        refine ⟨_, rfl, _, rfl, D0, _, ((i : Nat) : Int), V.ref z.1, rfl, rfl, SqL.of (tr2.at (i := 2) (a := D0) (l := as.map V.ref) rfl), atI_nat (j := i) (by rw [List.getElem?_map, ← eM2, List.getElem?_map, hMi]; rfl), .inl ⟨rfl, _, SqL.of hz2⟩, _, rfl, z.1, _, _, rfl, rfl, hz2, by omega, ?_⟩
        have tr3 := tr2.set (i := i + 3) (a := z.1) (l := z.2) (l' := z.2 ++ [V.int (p.1 : Nat)]) hMi
        have x3 : Ex G2 (upd G2 z.1 (.lst (z.2 ++ [V.int (p.1 : Nat)]))) := (Off.put (a := z.1)).ex hz2 upd_same
        refine ⟨_, M2.set i (z.1, z.2 ++ [V.int (p.1 : Nat)]), rfl, x2.trans x3, tr3, by rw [lsn_fst hMi]; exact eM2, fun j z' hz' => ?_⟩
        rw [List.take_add_one, hik]
        by_cases eji : i = j
        · subst eji
          rw [List.getElem?_set_self (by omega)] at hz'
          cases hz'
          rw [if_pos (by simp), ez]
          unfold iL
          rw [List.map_append]
          rfl
        · rw [List.getElem?_set_ne eji] at hz'
          rw [hM2 j z' hz']
          have : (j ∈ m.take k ++ (some i).toList) ↔ j ∈ m.take k := by
            simp only [List.mem_append, Option.toList_some, List.mem_singleton]
            exact ⟨fun h => h.resolve_right fun z => eji z.symm, .inl⟩
          simp only [this]
      · rintro σ G2 ⟨g3, M2, rfl, x2, tr2, eM2, hM2⟩
        refine ⟨_, _, _, M2, rfl, (xG.trans (.same sG1)).trans x2, tr2.tail, eM2, fun i z hz => ?_⟩
        rw [hM2 i z hz, lim, List.take_length, List.take_add_one, hwt]
        have sn := nrow_snoc (ns := ns) (l := ws.take t) (p := p) (i := i)
        by_cases hm : i ∈ m
        · rw [if_pos hm]
          exact congrArg iL (sn.1 ((nds.all i).mp hm)).symm
        · rw [if_neg hm, List.append_nil]
          exact congrArg iL (sn.2 fun z => hm ((nds.all i).mpr z)).symm
    · rintro σ G ⟨g3, g5, g6, M, rfl, xG, tr, eM, hM⟩
      rw [show ws.take ys.length = ws by rw [← lws]; exact List.take_length] at hM
      have sG := tr.same
      have lM : M.length = ns.length := by
        have := congrArg List.length eM
        rw [List.length_map, la, lu] at this
        exact this
      have hD0 := tr.at (i := 1) (a := D0) (l := as.map V.ref) rfl
      refine ⟨_, rfl, D0, rfl, ⟨_, SqL.of hD0⟩, fun D2 nD2 => ?_⟩
      refine lcJL (Pd := fun i d => d = .tup (iD (nrow ns ws i))) jr_same (Same.refl _) (by rw [List.length_map]; omega) (fun G2 s2 => Same.seq s2 (SqL.of hD0)) nD2 ?_ ?_
      · intro i x G2 Q2 Z2 hx s2 hQ
        rw [← eM, List.map_map, List.getElem?_map] at hx
        obtain ⟨z, hz, rfl⟩ := Option.map_eq_some_iff.mp hx
        have hz2 := s2 _ _ (tr.hold z (List.mem_cons_of_mem _ (List.mem_cons_of_mem _ (List.mem_of_getElem? hz))))
        have ez := hM i z hz
        refine ⟨rfl, ?_⟩
        refine iteT (B := Z2 G2) ⟨_, rfl, z.1, z.2, rfl, .inl ⟨SqL.of hz2, fun l nl => ?_⟩⟩
        refine hQ _ _ (.tup (iD (nrow ns ws i))) (Same.new nl) (tup_val upd_same ?_ ?_) rfl
        · rw [ez]
          exact ints_iD _
        · have h1 := lnr ws.length i
          rw [List.take_length] at h1
          unfold iD
          rw [List.length_map]
          omega
      · intro G2 zs es s2 hD2 rz le pe
        have ee : es = ((List.range ns.length).map (nrow ns ws)).map fun r => .tup (iD r) := by
          apply List.ext_getElem?
          intro i
          rw [List.getElem?_map, List.getElem?_map]
          rw [List.length_map, la, lu] at le
          by_cases hi : i < es.length
          · rw [List.getElem?_eq_getElem hi, pe i _ (List.getElem?_eq_getElem hi), List.getElem?_range (by omega)]
            rfl
          · rw [List.getElem?_eq_none (by omega), List.getElem?_eq_none (by rw [List.length_range]; omega)]
            rfl
        rw [ee] at rz
        refine q D2 G2 _ ((s1.trans sG).trans s2) (none_of (s1.trans sG) nD2) ⟨zs, hD2, rz⟩ ⟨by rw [List.length_map, List.length_range], fun i r hr => ?_⟩
        rw [List.getElem?_map] at hr
        obtain ⟨j, hj, rfl⟩ := Option.map_eq_some_iff.mp hr
        have hjl := (List.getElem?_eq_some_iff.mp hj).1
        rw [List.length_range] at hjl
        have eij : j = i := by
          obtain ⟨h1, h2⟩ := List.getElem?_eq_some_iff.mp hj
          rw [List.getElem_range] at h2
          omega
        rw [← eij]
        exact sw.row j
end
end Sl

set_option Elab.async false
set_option linter.all false
set_option maxRecDepth 100000
set_option maxHeartbeats 400000
/-! ## Walk-ordered graphs: who needs whom -/
namespace Sl
open PySem PySem.Spec PyProof.Rows L2
/-- each but the root has a parent that stands ahead of it -/
def Ahead (k : Nat → List Nat) (r : Nat) (l : List Nat) : Prop := ∀ (j a : Nat), l[j]? = some a → a = r ∨ ∃ i p : Nat, i < j ∧ l[i]? = some p ∧ a ∈ k p
theorem FW.ahead {k : Nat → List Nat} {r : Nat} {m st o : List Nat} (h : FW k m st o) (hm : Ahead k r m) (hs : ∀ s ∈ st, s = r ∨ ∃ p ∈ m, s ∈ k p) : Ahead k r o := by
  induction h with
  | nil => exact hm
  | old _ _ ih => exact ih hm fun s h => hs s (List.mem_cons_of_mem _ h)
  | @new m st o s hn _ ih =>
    refine ih (fun j a hj => ?_) (fun c hc => ?_)
    · by_cases hl : j < m.length
      · rw [List.getElem?_append_left hl] at hj
        rcases hm j a hj with e | ⟨i, p, h1, h2, h3⟩
        · exact .inl e
        · exact .inr ⟨i, p, h1, by rw [List.getElem?_append_left (by omega)]; exact h2, h3⟩
      · have e : j = m.length := by
          have := (List.getElem?_eq_some_iff.mp hj).1
          rw [List.length_append, List.length_singleton] at this
          omega
        subst e
        rw [List.getElem?_append_right (Nat.le_refl _), Nat.sub_self] at hj
        cases hj
        rcases hs s List.mem_cons_self with e | ⟨p, hp, hk⟩
        · exact .inl e
        · obtain ⟨i, hi, e⟩ := List.getElem_of_mem hp
          exact .inr ⟨i, p, hi, by rw [List.getElem?_append_left hi, List.getElem?_eq_getElem hi, e], hk⟩
    · rcases List.mem_append.mp hc with hc | hc
      · exact .inr ⟨s, List.mem_append_right _ (List.mem_singleton.mpr rfl), hc⟩
      · rcases hs c (List.mem_cons_of_mem _ hc) with e | ⟨p, hp, hk⟩
        · exact .inl e
        · exact .inr ⟨p, List.mem_append_left _ hp, hk⟩
theorem FW.lt {k : Nat → List Nat} {n : Nat} {m st o : List Nat} (h : FW k m st o) (hk : ∀ i, ∀ c ∈ k i, c < n) (hm : ∀ i ∈ m, i < n) (hs : ∀ i ∈ st, i < n) : ∀ i ∈ o, i < n := by
  induction h with
  | nil => exact hm
  | old _ _ ih => exact ih hm fun i h => hs i (List.mem_cons_of_mem _ h)
  | @new m st o s _ _ ih =>
    refine ih (fun i hi => ?_) (fun i hi => ?_)
    · rcases List.mem_append.mp hi with hi | hi
      · exact hm i hi
      · rw [List.mem_singleton.mp hi]
        exact hs s List.mem_cons_self
    · rcases List.mem_append.mp hi with hi | hi
      · exact hk s i hi
      · exact hs i (List.mem_cons_of_mem _ hi)
theorem kd_rng {ns : List GN} (hg : ∀ g ∈ ns, Rng ns.length g) (i : Nat) : ∀ c ∈ kd ns i, c < ns.length := fun c hc => by
  unfold kd at hc
  split at hc
  · rename_i g e
    exact (gk_rng (hg g (List.mem_of_getElem? e))).2 c hc
  · cases hc
theorem fw_ahead {k : Nat → List Nat} {r : Nat} {o : List Nat} (h : FW k [] [r] o) : Ahead k r o :=
  h.ahead (fun j a hj => by simp at hj) fun s hs => .inl (List.mem_singleton.mp hs)
theorem fw_head {k : Nat → List Nat} {r : Nat} {o : List Nat} (h : FW k [] [r] o) : o[0]? = some r := by
  have gen : ∀ {m st o : List Nat}, FW k m st o → ∀ a, m[0]? = some a → o[0]? = some a := fun {m st o} h => by
    induction h with
    | nil => exact fun a h => h
    | old _ _ ih => exact ih
    | @new m st o s _ _ ih =>
      intro a ha
      refine ih a ?_
      rw [List.getElem?_append_left (List.getElem?_eq_some_iff.mp ha).1]
      exact ha
  cases h with
  | old h _ => cases h
  | new _ h => exact gen h r rfl
/-- the root needs nothing -/
def Free (ns : List GN) : Prop := ∀ f v, ns[v]? = some (.V f) → ¬ Nd ns f v 0
theorem free_row {ns : List GN} {r : List Nat} (h : Row ns 0 r) : r = [] ↔ Free ns := by
  constructor
  · intro e f v hv hn
    have := (h.mem f).mpr ⟨v, hv, hn⟩
    rw [e] at this
    cases this
  · intro hf
    cases r with
    | nil => rfl
    | cons x r =>
      obtain ⟨v, hv, hn⟩ := (h.mem x).mp List.mem_cons_self
      exact absurd hn (hf x v hv)
/-- a walk from a root that needs nothing meets the functions of the variables that it meets -/
theorem owner_met {ns : List GN} {o : List Nat} (fr : Free ns) (h : FW (kd ns) [] [0] o) {v f : Nat} (hv : v ∈ o) (e : ns[v]? = some (.V f)) : f ∈ o := by
  by_cases hf : f ∈ o
  · exact hf
  refine absurd ?_ (fr f v e)
  have ah := fw_ahead h
  have up : ∀ (n j a : Nat), j ≤ n → o[j]? = some a → Nd ns f v a → Nd ns f v 0 := fun n => by
    induction n with
    | zero =>
      intro j a hj ha hn
      have e0 := fw_head h
      rw [show j = 0 by omega, e0] at ha
      rw [Option.some.inj ha]
      exact hn
    | succ n ih =>
      intro j a hj ha hn
      rcases ah j a ha with e0 | ⟨i, p, h1, h2, h3⟩
      · rw [← e0]
        exact hn
      · exact ih i p (by omega) h2 (.up hn h3 fun z => hf (z ▸ List.mem_of_getElem? h2))
  obtain ⟨j, hj, e2⟩ := List.getElem_of_mem hv
  exact up j j v (Nat.le_refl _) (by rw [List.getElem?_eq_getElem hj, e2]) .var
theorem walk_closed {ns : List GN} {o : List Nat} (fr : Free ns) (h : FW (kd ns) [] [0] o) (lt : ∀ i ∈ o, i < ns.length) : ∀ i ∈ o, ∀ j ∈ nums (nAt ns i), j ∈ o := fun i hi j hj => by
  have hat := nAt_get (lt i hi)
  have cl := h.closed (fun a ha => by cases ha) i hi
  rw [kd_at hat] at cl
  cases hg : nAt ns i with
  | W x cs =>
    rw [hg] at cl hj
    exact cl j hj
  | F c =>
    rw [hg] at cl hj
    exact cl j hj
  | V f =>
    rw [hg] at hj hat
    rw [List.mem_singleton.mp hj]
    exact owner_met fr h hi hat
/-! ### renumbered -/
theorem gk_rl (ν : Nat → Nat) (g : GN) : gk (rl ν g) = (gk g).map ν := by
  cases g <;> rfl
theorem ren_at {ns : List GN} {o : List Nat} {i a : Nat} (h : o[i]? = some a) : (ren ns o)[i]? = some (rl (fun j => o.idxOf j) (nAt ns a)) := by
  unfold ren
  rw [List.getElem?_map, h]
  rfl
theorem ren_len (ns : List GN) (o : List Nat) : (ren ns o).length = o.length := List.length_map ..
theorem idx_back {o : List Nat} {j : Nat} (h : j ∈ o) : o[o.idxOf j]? = some j := by
  have := List.idxOf_lt_length_of_mem h
  rw [List.getElem?_eq_getElem this, List.getElem_idxOf this]
section
variable {ns : List GN} {o : List Nat} (nd : o.Nodup) (lt : ∀ i ∈ o, i < ns.length) (cl : ∀ i ∈ o, ∀ j ∈ nums (nAt ns i), j ∈ o)
theorem gk_nums {g : GN} {j : Nat} (h : j ∈ gk g) : j ∈ nums g := by
  cases g with
  | W x cs => exact h
  | F c => exact h
  | V f => cases h
include lt cl in
theorem ren_rng (hg : ∀ g ∈ ns, Rng ns.length g) : ∀ g ∈ ren ns o, Rng (ren ns o).length g := fun g hgm => by
  unfold ren at hgm
  obtain ⟨i, hi, rfl⟩ := List.mem_map.mp hgm
  have hr := hg _ (List.mem_of_getElem? (nAt_get (lt i hi)))
  have hc := cl i hi
  rw [ren_len]
  cases hn : nAt ns i with
  | W x cs =>
    rw [hn] at hr hc
    refine ⟨hr.1, by rw [List.length_map]; exact hr.2.1, fun c hcm => ?_⟩
    obtain ⟨j, hj, rfl⟩ := List.mem_map.mp hcm
    exact List.idxOf_lt_length_of_mem (hc j hj)
  | F c =>
    rw [hn] at hc
    exact List.idxOf_lt_length_of_mem (hc c (List.mem_singleton.mpr rfl))
  | V f =>
    rw [hn] at hc
    exact List.idxOf_lt_length_of_mem (hc f (List.mem_singleton.mpr rfl))
include cl in
/-- what a renumbered node's child was -/
theorem ren_kid {i c a : Nat} (ha : o[i]? = some a) (h : c ∈ kd (ren ns o) i) : ∃ b, o[c]? = some b ∧ b ∈ gk (nAt ns a) := by
  rw [kd_at (ren_at ha), gk_rl] at h
  obtain ⟨b, hb, rfl⟩ := List.mem_map.mp h
  exact ⟨b, idx_back (cl a (List.mem_of_getElem? ha) b (gk_nums hb)), hb⟩
include cl in
theorem ren_var {v f a : Nat} (ha : o[v]? = some a) (h : (ren ns o)[v]? = some (.V f)) : ∃ b, o[f]? = some b ∧ nAt ns a = .V b := by
  rw [ren_at ha] at h
  have e := Option.some.inj h
  cases hn : nAt ns a with
  | W x cs => rw [hn] at e; cases e
  | F c => rw [hn] at e; cases e
  | V b =>
    rw [hn] at e
    have e' : GN.V (o.idxOf b) = .V f := e
    cases e'
    refine ⟨b, idx_back (cl a (List.mem_of_getElem? ha) b ?_), rfl⟩
    rw [hn]
    exact List.mem_singleton.mpr rfl
include nd lt cl in
theorem ren_nd {f v i : Nat} (h : Nd (ren ns o) f v i) : ∀ a b c, o[f]? = some a → o[v]? = some b → o[i]? = some c → Nd ns a b c := by
  induction h with
  | var =>
    intro a b c ha hb hc
    rw [hb] at hc
    cases hc
    exact .var
  | @up i c _ hk hne ih =>
    intro a b e ha hb he
    obtain ⟨c2, h1, h2⟩ := ren_kid cl he hk
    refine .up (ih a b c2 ha hb h1) ?_ fun z => hne ?_
    · rw [kd_at (nAt_get (lt e (List.mem_of_getElem? he)))]
      exact h2
    · subst z
      obtain ⟨x1, x2⟩ := List.getElem?_eq_some_iff.mp he
      obtain ⟨y1, y2⟩ := List.getElem?_eq_some_iff.mp ha
      exact (List.getElem_inj nd).mp (x2.trans y2.symm)
end
/-- each but the root has a parent with a smaller number; the root needs nothing -/
structure Wo (ns : List GN) : Prop where
  par : ∀ i, 0 < i → i < ns.length → ∃ p, p < i ∧ i ∈ kd ns p
  free : Free ns
theorem ren_wo {ns : List GN} {o : List Nat} (fr : Free ns) (h : FW (kd ns) [] [0] o) (nd : o.Nodup) (lt : ∀ i ∈ o, i < ns.length) : Wo (ren ns o) := by
  have cl := walk_closed fr h lt
  refine ⟨fun i h0 hi => ?_, fun f v hv hn => ?_⟩
  · rw [ren_len] at hi
    have hat := List.getElem?_eq_getElem hi
    rcases fw_ahead h i _ hat with e | ⟨j, p, h1, h2, h3⟩
    · have e0 := fw_head h
      obtain ⟨x1, x2⟩ := List.getElem?_eq_some_iff.mp e0
      have := (List.getElem_inj nd).mp (x2.trans e.symm)
      omega
    · refine ⟨j, h1, ?_⟩
      rw [kd_at (ren_at h2), gk_rl]
      rw [kd_at (nAt_get (lt p (List.mem_of_getElem? h2)))] at h3
      refine List.mem_map.mpr ⟨_, h3, idxOf_at nd hi⟩
  · have hvl := (List.getElem?_eq_some_iff.mp hv).1
    rw [ren_len] at hvl
    have ha := List.getElem?_eq_getElem hvl
    obtain ⟨b, hb, e⟩ := ren_var cl ha hv
    have hat := nAt_get (lt _ (List.mem_of_getElem? ha))
    rw [e] at hat
    exact fr b _ hat (ren_nd nd lt cl hn b _ 0 hb ha (fw_head h))
theorem Wo.lt {ns : List GN} (W : Wo ns) {f v : Nat} (hv : ns[v]? = some (.V f)) : ∀ {i : Nat}, i < ns.length → Nd ns f v i → f < i := fun {i} => by
  induction i using Nat.strongRecOn with
  | ind i ih =>
    intro hi hn
    by_cases h0 : i = 0
    · subst h0
      exact absurd hn (W.free f v hv)
    · obtain ⟨p, h1, h2⟩ := W.par i (by omega) hi
      by_cases e : p = f
      · omega
      · have := ih p h1 (by omega) (.up hn h2 e)
        omega
/-- of two functions that a node needs the later one needs the earlier one -/
theorem Wo.inner {ns : List GN} (W : Wo ns) {f v g u : Nat} (hv : ns[v]? = some (.V f)) (hu : ns[u]? = some (.V g)) (hgf : g < f) : ∀ {i : Nat}, i < ns.length → Nd ns f v i → Nd ns g u i → Nd ns g u f := fun {i} => by
  induction i using Nat.strongRecOn with
  | ind i ih =>
    intro hi hf hg
    have hfi := W.lt hv hi hf
    obtain ⟨p, h1, h2⟩ := W.par i (by omega) hi
    by_cases e : p = f
    · subst e
      exact .up hg h2 (by omega)
    · by_cases e2 : p = g
      · subst e2
        have := W.lt hv (by omega) (.up hf h2 e)
        omega
      · exact ih p h1 (by omega) (.up hf h2 e) (.up hg h2 e2)
/-- the chain of functions around a node -/
theorem rows_back {ns : List GN} (W : Wo ns) {R : List (List Nat)} (ok : RowsOk ns R) (hz : ns.length ≤ 4000) : ∀ (i : Nat) (r : List Nat), R[i]? = some r → r.length ≤ 4000 ∧ ∀ x, r.getLast? = some x → x < i := fun i r hr => by
  have row := ok.row i r hr
  have hi : i < ns.length := by rw [← ok.len]; exact (List.getElem?_eq_some_iff.mp hr).1
  have lt : ∀ x ∈ r, x < i := fun x hx => by
    obtain ⟨v, hv, hn⟩ := (row.mem x).mp hx
    exact W.lt hv hi hn
  refine ⟨?_, fun x hx => lt x (List.mem_of_getLast? hx)⟩
  have := nd_len' (row.asc.imp fun h => Nat.ne_of_lt h) lt
  omega
/-- whose owners are functions; one variable each -/
theorem ren_own {ns : List GN} {o : List Nat} (nd : o.Nodup) (lt : ∀ i ∈ o, i < ns.length) (cl : ∀ i ∈ o, ∀ j ∈ nums (nAt ns i), j ∈ o) (ho : (own ns).Nodup) : (own (ren ns o)).Nodup := by
  unfold own ren
  rw [List.filterMap_map]
  refine List.Pairwise.filterMap _ (fun a b hab p hp q hq => ?_) (List.Pairwise.imp_of_mem (fun {a b} ha hb h => (⟨ha, hb, h⟩ : a ∈ o ∧ b ∈ o ∧ a ≠ b)) nd)
  obtain ⟨ha, hb, hne⟩ := hab
  intro e
  subst e
  have get : ∀ x, x ∈ o → ((GN.own ∘ fun i => rl (fun j => o.idxOf j) (nAt ns i)) x = some p) → ∃ f, nAt ns x = .V f ∧ o.idxOf f = p ∧ f ∈ o := fun x hx h => by
    cases hn : nAt ns x with
    | W y cs =>
      have h' : (rl (fun j => o.idxOf j) (nAt ns x)).own = some p := h
      rw [hn] at h'
      cases h'
    | F c =>
      have h' : (rl (fun j => o.idxOf j) (nAt ns x)).own = some p := h
      rw [hn] at h'
      cases h'
    | V f =>
      have h' : (rl (fun j => o.idxOf j) (nAt ns x)).own = some p := h
      rw [hn] at h'
      refine ⟨f, rfl, Option.some.inj h', cl x hx f ?_⟩
      rw [hn]
      exact List.mem_singleton.mpr rfl
  obtain ⟨f, e1, e2, e3⟩ := get a ha hp
  obtain ⟨g, e4, e5, e6⟩ := get b hb hq
  have ef : f = g := by
    have h1 := idx_back e3
    have h2 := idx_back e6
    rw [e2] at h1
    rw [e5] at h2
    rw [h1] at h2
    exact Option.some.inj h2
  subst ef
  have h1 := nAt_get (lt a ha)
  have h2 := nAt_get (lt b hb)
  rw [e1] at h1
  rw [e4] at h2
  exact hne (own_inj ho h1 h2)
end Sl

set_option Elab.async false
set_option linter.all false
set_option maxRecDepth 100000
set_option maxHeartbeats 400000
/-! ## scopes_of -/
namespace Sl
open PySem PySem.Spec PyProof.Rows L2
abbrev sScopes : Stmt := topT 25
theorem scScopes : FnScope ["needs", "scopes", "row"] ["needs"] (defScope sScopes) := ⟨rfl, rfl, rfl, by decide +kernel, rfl, by decide +kernel, by decide +kernel⟩
/-- the last of each row lies before the row -/
def Back (R : List (List Nat)) : Prop := ∀ (i : Nat) (r : List Nat), R[i]? = some r → r.length ≤ 4000 ∧ ∀ x, r.getLast? = some x → x < i
structure Sc (R S : List (List Nat)) : Prop where
  len : S.length = R.length
  nil : ∀ i : Nat, R[i]? = some [] → S[i]? = some []
  one : ∀ (i : Nat) (r : List Nat) (x : Nat), R[i]? = some r → r.getLast? = some x → ∃ s, S[x]? = some s ∧ S[i]? = some (s ++ [x])
section
variable {P : Program} {w : World} {K : PySem.W.Frag} {mg : Str → Option Value} {base : Heap}
def spScopes (K : PySem.W.Frag) : Sp := fun vs H Q _ => ∃ (p : Addr) (R : List (List Nat)), vs = [.ref p] ∧ RowsAt K H p R ∧ Back R ∧ R.length ≤ 4000 ∧ ∀ q H' S, Same H H' → H q = none → RowsAt K H' q S → Sc R S → Q (.ref q) H'
theorem ok_scopes {f : Addr} {fd : FuncData} (F : Fun K "scopes_of" "scopes_of" sScopes f fd) (B : Bt mg) : FnOk P w K mg base CX0 1 f fd ["needs"] (spScopes K) := by
  refine F.ok scScopes (fun vs H Q E h => ?_) (fun cdv A outer s H vs Q E hr h => ?_)
  · obtain ⟨p, R, rfl, _⟩ := h
    rfl
  · obtain ⟨p, R, rfl, ⟨ys, hp, hys⟩, bk, hn, q⟩ := h
    have sl := sizeLine_eq
    --D
    refine ⟨_, (pss_cons (ps_set (i := 1) scScopes.nd rfl (Or.inl rfl) (pe_lst pa_nil))
        (pss_cons (ps_for PassesOwn.never rfl (pi_list (pv 0)) (pg_name (i := 2) scScopes.nd rfl (Or.inl rfl))
          (pss_one (ps_expr (pe_bm PySem.F.plainAttrs_list PySem.F.slot_list_append PySem.F.type_list_append mt_append (pv 1) (pa_cons (pe_ifExp (pt_cmpR op_gt (pe_callB call_len_seq (by rfl) B.len PySem.boot_len (pa_cons (pv 2) pa_nil)) pe_int (nomark _)) (pe_op op_catA (pe_ix ix_list (pv 1) (pe_ix ix_tup (pv 2) (pe_un un_neg pe_int) (fun _ _ => rfl)) (fun _ _ => rfl)) (pe_tup (pa_cons (pe_ix ix_tup (pv 2) (pe_un un_neg pe_int) (fun _ _ => rfl)) pa_nil))) (pe_tup pa_nil)) pa_nil)))))
        (pss_one (ps_ret (pv 1))))), ?_⟩
    --E
    refine ⟨(by show 0 ≤ sizeLine; omega), fun l nl => ?_⟩
    have s1 := Same.new (o := .lst []) nl
    have hl1 : (upd H l (.lst [])) l = some (.lst []) := upd_same
    generalize upd H l (.lst []) = H1 at s1 hl1 ⊢
    have ly : ys.length = R.length := by rw [hys.length, List.length_map]
    refine ⟨_, rfl, p, rfl, ⟨_, SqL.of (s1 _ _ hp)⟩, ?_⟩
    refine for_list (xs := ys) (fun i σ G => ∃ (g2 : Option V) (zs : List V) (S : List (List Nat)), σ = [some (.ref p), some (.ref l), g2] ∧ Same H G ∧ G l = some (.lst zs) ∧ RddAll K G zs (S.map fun r => .tup (iD r)) ∧ S.length = i ∧ (∀ (j : Nat) (s : List Nat), S[j]? = some s → s.length ≤ j) ∧
      (∀ j : Nat, j < i → R[j]? = some [] → S[j]? = some []) ∧ ∀ (j : Nat) (r : List Nat) (x : Nat), j < i → R[j]? = some r → r.getLast? = some x → ∃ s, S[x]? = some s ∧ S[j]? = some (s ++ [x])) ?_ ?_ ?_ ?_
    · exact ⟨none, [], [], rfl, s1, hl1, .nil, rfl, (fun j s h => by simp at h), (fun j h => by omega), (fun j r x h => by omega)⟩
    · rintro i σ G _ ⟨g2, zs, S, rfl, sG, _⟩
      exact SqL.of (sG _ _ hp)
    · rintro i y σ G hy ⟨g2, zs, S, rfl, sG, hl, rS, lS, cS, nS, oS⟩
      obtain ⟨d, hd, ry⟩ := hys.get hy
      rw [List.getElem?_map] at hd
      obtain ⟨r, hr', rfl⟩ := Option.map_eq_some_iff.mp hd
      have hi := (List.getElem?_eq_some_iff.mp hr').1
      obtain ⟨b1, b2⟩ := bk i r hr'
      obtain ⟨a0, xs, rfl, hs, hx, _⟩ := (Rdd.ex (Ex.same sG) _ ry).tupd'
      have ex := iD_ints hx
      have lx : xs.length = r.length := by rw [ex, List.length_map]
      have lzs : zs.length = i := by rw [rS.length, List.length_map, lS]
      have push : ∀ (v : V) (s : List Nat) (G2 : Hp), Same G G2 → Rdd K G2 v (.tup (iD s)) → s.length ≤ i → (r = [] → s = []) → (∀ x, r.getLast? = some x → ∃ s', S[x]? = some s' ∧ s = s' ++ [x]) →
          ∃ (g2 : Option V) (zs2 : List V) (S2 : List (List Nat)), [some (.ref p), some (.ref l), some (.ref a0)] = [some (.ref p), some (.ref l), g2] ∧ Same H (upd G2 l (.lst (zs ++ [v]))) ∧ (upd G2 l (.lst (zs ++ [v]))) l = some (.lst zs2) ∧ RddAll K (upd G2 l (.lst (zs ++ [v]))) zs2 (S2.map fun r => .tup (iD r)) ∧ S2.length = i + 1 ∧ (∀ (j : Nat) (s : List Nat), S2[j]? = some s → s.length ≤ j) ∧
            (∀ j : Nat, j < i + 1 → R[j]? = some [] → S2[j]? = some []) ∧ ∀ (j : Nat) (r : List Nat) (x : Nat), j < i + 1 → R[j]? = some r → r.getLast? = some x → ∃ s, S2[x]? = some s ∧ S2[j]? = some (s ++ [x]) := fun v s G2 s2 rv ls h0 h1 => by
        have x2 : Ex G2 (upd G2 l (.lst (zs ++ [v]))) := (Off.put (a := l)).ex (s2 _ _ hl) upd_same
        have old : ∀ j, j < i → (S ++ [s])[j]? = S[j]? := fun j hj => List.getElem?_append_left (by omega)
        have new : (S ++ [s])[i]? = some s := by
          rw [List.getElem?_append_right (by omega), lS, Nat.sub_self]
          rfl
        refine ⟨_, _, S ++ [s], rfl, jr_same.put (sG.trans s2) nl, upd_same, ?_, by rw [List.length_append, lS]; rfl, fun j t hj => ?_, fun j hj hR => ?_, fun j r2 x hj hR hx2 => ?_⟩
        · rw [List.map_append]
          exact (RddAll.ex x2 _ (RddAll.ex (Ex.same s2) _ rS)).snoc (Rdd.ex x2 _ rv)
        · by_cases e : j < i
          · rw [old j e] at hj
            exact cS j t hj
          · have := (List.getElem?_eq_some_iff.mp hj).1
            rw [List.length_append, List.length_singleton] at this
            have e2 : j = i := by omega
            subst e2
            rw [new] at hj
            cases hj
            exact ls
        · by_cases e : j < i
          · rw [old j e]
            exact nS j e hR
          · have e2 : j = i := by omega
            subst e2
            rw [hr'] at hR
            rw [new, h0 (Option.some.inj hR)]
        · by_cases e : j < i
          · obtain ⟨s', h2, h3⟩ := oS j r2 x e hR hx2
            have hxl := (List.getElem?_eq_some_iff.mp h2).1
            exact ⟨s', by rw [old x (by omega)]; exact h2, by rw [old j e]; exact h3⟩
          · have e2 : j = i := by omega
            subst e2
            rw [hr'] at hR
            cases hR
            obtain ⟨s', h2, h3⟩ := h1 x hx2
            have hxl := (List.getElem?_eq_some_iff.mp h2).1
            exact ⟨s', by rw [old x (by omega)]; exact h2, by rw [new, h3]⟩
      refine ⟨_, rfl, .inl ⟨rfl, _, SqL.of hl⟩, _, rfl, a0, xs, rfl, .inr hs, _, _, rfl, rfl, _, rfl, ?_⟩
      rcases List.eq_nil_or_concat r with rfl | ⟨r1, x, rfl⟩
      · rw [decide_eq_false (by rw [lx]; decide)]
        refine iteF ⟨(by show 0 ≤ sizeLine; omega), fun t nt => ?_⟩
        have s2 := Same.new (o := .tup []) nt
        refine ⟨l, _, _, rfl, rfl, s2 _ _ hl, by omega, ?_⟩
        exact push _ [] _ s2 (tup_val upd_same .nil (by simp [iD])) (Nat.zero_le _) (fun _ => rfl) (fun x h => by cases h)
      · rw [List.concat_eq_append] at ex lx b1 b2 push
        have hlast : (r1 ++ [x]).getLast? = some x := List.getLast?_concat
        have hxi := b2 x hlast
        have exs : xs = iL r1 ++ [V.int (x : Nat)] := by
          rw [ex, List.map_append]
          rfl
        rw [List.length_append, List.length_singleton] at lx
        rw [decide_eq_true (by omega)]
        obtain ⟨zx, hzx, rzx⟩ := rS.at (i := x) (d := .tup (iD (S[x]'(by omega)))) (by rw [List.getElem?_map, List.getElem?_eq_getElem (by omega)]; rfl)
        have hSx : S[x]? = some (S[x]'(by omega)) := List.getElem?_eq_getElem _
        generalize S[x]'(by omega) = sx at hSx rzx
        have lsx := cS x sx hSx
        obtain ⟨c0, cs, rfl, hc, hcs, _⟩ := rzx.tupd'
        have ecs := iD_ints hcs
        have lcs : cs.length = sx.length := by rw [ecs, List.length_map]
        have hat : atI xs (-1) = some (V.int (x : Nat)) := by
          rw [exs]
          exact atI_last _ _
        refine iteT ⟨_, rfl, _, rfl, _, rfl, a0, _, (-1 : Int), _, rfl, rfl, hs, hat, l, zs, ((x : Nat) : Int), .ref c0, rfl, rfl, SqL.of hl, atI_nat hzx, _, rfl, _, rfl, a0, _, (-1 : Int), _, rfl, rfl, hs, hat, (by show 1 ≤ sizeLine; omega), fun t nt => ?_⟩
        have s2 := Same.new (o := .tup [V.int (x : Nat)]) nt
        have ht2 : (upd G t (.tup [V.int (x : Nat)])) t = some (.tup [V.int (x : Nat)]) := upd_same
        generalize upd G t (.tup [V.int (x : Nat)]) = G2 at s2 ht2 ⊢
        have nil : r1 ++ [x] = [] → sx ++ [x] = [] := fun z => by simp at z
        have one : ∀ x', (r1 ++ [x]).getLast? = some x' → ∃ s', S[x']? = some s' ∧ sx ++ [x] = s' ++ [x'] := fun x' h => by
          rw [hlast] at h
          cases h
          exact ⟨sx, hSx, rfl⟩
        have lnew : (sx ++ [x]).length ≤ i := by rw [List.length_append, List.length_singleton]; omega
        refine ⟨c0, t, cs, [V.int (x : Nat)], rfl, rfl, (Ex.same s2).tup hc, SqT.of ht2, by rw [List.length_singleton]; omega, fun e0 => ?_, fun _ e => (by cases e), fun _ _ t3 nt3 => ?_⟩
        · have esx : sx = [] := List.length_eq_zero_iff.mp (by rw [← lcs, e0]; rfl)
          subst esx
          refine ⟨l, _, _, rfl, rfl, s2 _ _ hl, by omega, ?_⟩
          exact push _ [x] _ s2 (tup_val ht2 (.cons (.int _) .nil) (by simp [iD])) lnew nil one
        · have s3 := Same.new (o := .tup (cs ++ [V.int (x : Nat)])) nt3
          refine ⟨l, _, _, rfl, rfl, s3 _ _ (s2 _ _ hl), by omega, ?_⟩
          refine push _ (sx ++ [x]) _ (s2.trans s3) (tup_val upd_same ?_ ?_) lnew nil one
          · rw [show cs ++ [V.int (x : Nat)] = (sx ++ [x]).map fun i => V.int (i : Nat) by rw [List.map_append, ecs]; rfl]
            exact ints_iD _
          · unfold iD
            rw [List.length_map]
            omega
    · rintro σ G ⟨g2, zs, S, rfl, sG, hl, rS, lS, cS, nS, oS⟩
      rw [ly] at lS nS oS
      exact ⟨_, rfl, q l G S sG nl ⟨zs, hl, rS⟩ ⟨lS, fun i hi => nS i (List.getElem?_eq_some_iff.mp hi).1 hi, fun i r x hi hx => oS i r x (List.getElem?_eq_some_iff.mp hi).1 hi hx⟩⟩
end
end Sl

set_option Elab.async false
set_option linter.all false
set_option maxRecDepth 100000
set_option maxHeartbeats 400000
/-! ## cls(*xs), cls a local that holds a class -/
namespace Sl
open PySem PySem.Spec PyProof.Rows L2 StX
section
variable {X : Cx} {CX : CXT} {k i : Nat} {f C : Addr} {sp : Sp} {E : XK} {x : Str} {e : Expr} {te : TE} {p pos sp_ : Pos}
def tMakeSL (K : PySem.W.Frag) (i : Nat) (C : Addr) (sp : Sp) (E : XK) (te : TE) : TE := fun σ H Q => σ[i]? = some (some (.ref C)) ∧ te σ H fun y H1 => ∃ a xs, y = V.ref a ∧ (SqT K H1 a xs ∨ SqL K H1 a xs) ∧
  ∀ x dx, H1 x = Option.none → H1 dx = Option.none → dx ≠ x → sp (V.ref x :: xs) (upd (upd H1 dx (.own x)) x (.ins C dx [])) (fun v H2 => v = .non ∧ Q (.ref x) H2) E
theorem pe_makeSL (M : Mk X.K C f) (F : FnR X.prog X.w X.K X.mg X.base CX k f sp) (hr : Room (k + 1) X.A) (hN : X.N[i]? = some x) (hv : Vis X.env.scope x) (hx : Passes CX X E) (he : PE X e te)
    (hdb : (x == ("__debug__" : Str)) = false := by decide) (hcd : (x == ("__classdict__" : Str)) = false := by decide) (hst : starEach [.Starred e sp_] X.env = [(true, eval e X.env)] := by rfl) :
    PE X (.Call (.Name x p) [.Starred e sp_] [] pos) (tMakeSL X.K i C sp E te) := by
  refine ⟨fun pins s σ H Q I ⟨hs, ht⟩ => ?_⟩
  refine wpAny_Call_Name_kw (thn ((pe_var (pos := p) hN hv hdb hcd).run pins s σ H (fun v H1 => v = .ref C ∧ H1 = H) I ⟨.ref C, hs, rfl, rfl⟩) fun u s1 ⟨v, H1, I1, r1, q1⟩ => ?_)
  obtain ⟨rfl, rfl⟩ := q1
  cases r1
  refine PySem.W.callWith_S (h₀ := X.base) I1.ok.mod.kin M.kp (thn (he.run pins s1 σ _ _ I1 ht) fun v s2 ⟨y, H2, I2, ry, a, xs, ey, hxs, q⟩ => ?_) hst
  subst ey
  obtain rfl : v = Value.ref a := ry
  exact star_any I2 hxs fun us s3 I3 rv => ⟨I3.kIn, run_makeR M F hr hx I3 rv q⟩
end
end Sl

set_option Elab.async false
set_option linter.all false
set_option maxRecDepth 100000
set_option maxHeartbeats 400000
/-! ## Definitions, sorted by their numbers -/
namespace Sl
open PySem PySem.Spec PyProof.Rows L2
theorem asc_srtP : ∀ {l : List (Str × D)}, Asc (l.map (·.1)) → srtP l = l
  | [], _ => rfl
  | p :: r, h => by
    have h' := List.pairwise_cons.mp h
    have e := asc_srtP h'.2
    show insP p (srtP r) = p :: r
    rw [e]
    cases r with
    | nil => rfl
    | cons q r =>
      unfold insP
      rw [if_pos (h'.1 q.1 List.mem_cons_self)]
def sndAt (ps : List (Str × D)) (i : Nat) : D := (ps[i]?.map (·.2)).getD .non
def enP (ps : List (Str × D)) : List (Str × Int) := ps.zipIdx.map fun q => (q.1.1, (q.2 : Int))
theorem enP_at {ps : List (Str × D)} {i : Nat} : (enP ps)[i]? = ps[i]?.map fun p => (p.1, (i : Int)) := by
  unfold enP
  rw [List.getElem?_map, List.getElem?_zipIdx]
  cases ps[i]? with
  | none => rfl
  | some p => simp
theorem rows_srt {ps : List (Str × D)} {f : D → D} {ks : List (Str × Int)} (hn : (ps.map (·.1)).Nodup) (hp : ks.Perm (enP ps)) (hs : ks.Pairwise (fun x y => ltSI y x = false)) :
    ks.map (fun q => (q.1, f (sndAt ps q.2.toNat))) = srtP (ps.map fun p => (p.1, f p.2)) := by
  have e1 : (enP ps).map (fun q => (q.1, f (sndAt ps q.2.toNat))) = ps.map fun p => (p.1, f p.2) := by
    refine List.ext_getElem? fun i => ?_
    rw [List.getElem?_map, List.getElem?_map, enP_at]
    cases h : ps[i]? with
    | none => rfl
    | some p =>
      show some (p.1, f (sndAt ps (Int.toNat (i : Int)))) = some (p.1, f p.2)
      unfold sndAt
      rw [Int.toNat_natCast, h]
      rfl
  have pm : (ks.map (fun q => (q.1, f (sndAt ps q.2.toNat)))).Perm (ps.map fun p => (p.1, f p.2)) := by
    rw [← e1]
    exact hp.map _
  have e2 : (ps.map fun p => (p.1, f p.2)).map (·.1) = ps.map (·.1) := by
    rw [List.map_map]
    rfl
  have e3 : (ks.map (fun q => (q.1, f (sndAt ps q.2.toNat)))).map (·.1) = ks.map (·.1) := by
    rw [List.map_map]
    rfl
  have nk : (ks.map (·.1)).Nodup := by
    have := (pm.map (·.1)).nodup_iff.mpr (by rw [e2]; exact hn)
    rw [e3] at this
    exact this
  have asc : Asc ((ks.map (fun q => (q.1, f (sndAt ps q.2.toNat)))).map (·.1)) := by
    rw [e3]
    refine List.pairwise_map.mpr ?_
    have n2 := List.pairwise_map.mp (List.nodup_iff_pairwise_ne.mp nk)
    refine (hs.and n2).imp fun {x y} q => ?_
    obtain ⟨q1, q2⟩ := q
    unfold ltSI at q1
    rw [if_neg fun z => q2 z.symm] at q1
    cases e : sLt x.1 y.1
    · exact absurd (sLt_tri e q1) q2
    · rfl
  have u := srtP_uniq (l := ks.map (fun q => (q.1, f (sndAt ps q.2.toNat)))) (by rw [e3]; exact nk) pm
  rw [← u]
  exact (asc_srtP asc).symm
end Sl

set_option Elab.async false
set_option linter.all false
set_option maxRecDepth 100000
set_option maxHeartbeats 400000
namespace Sl
open PySem PySem.Spec PyProof.Rows L2
/-! ### a dict emptied beside open terms -/
mutual
def D.pure : D → Bool
  | .tup ds => D.pures ds
  | .lst => false
  | .dct => false
  | _ => true
def D.pures : List D → Bool
  | [] => true
  | d :: ds => d.pure && D.pures ds
end
mutual
theorem Rdd.keep {K : PySem.W.Frag} {G G' : Hp} (k : ∀ b xs, SqT K G b xs → SqT K G' b xs) : ∀ (d : D) {v : V}, d.pure = true → Rdd K G v d → Rdd K G' v d
  | .non, _, _, h => by cases h; exact .non
  | .bl b, _, _, h => by cases h; exact .bl b
  | .int i, _, _, h => by cases h; exact .int i
  | .str x, _, _, h => by cases h; exact .str x
  | .tup ds, _, g, h => by
    simp only [D.pure] at g
    cases h with
    | tup hs ha hl => exact .tup (k _ _ hs) (RddAll.keep k ds g ha) hl
  | .lst, _, g, _ => by simp [D.pure] at g
  | .dct, _, g, _ => by simp [D.pure] at g
theorem RddAll.keep {K : PySem.W.Frag} {G G' : Hp} (k : ∀ b xs, SqT K G b xs → SqT K G' b xs) : ∀ (ds : List D) {vs : List V}, D.pures ds = true → RddAll K G vs ds → RddAll K G' vs ds
  | [], _, _, h => by cases h; exact .nil
  | d :: ds, _, g, h => by
    simp only [D.pures, Bool.and_eq_true] at g
    cases h with
    | cons h1 h2 => exact .cons (Rdd.keep k d g.1 h1) (RddAll.keep k ds g.2 h2)
end
theorem pures_of : ∀ {ds : List D}, (∀ d ∈ ds, d.pure = true) → D.pures ds = true
  | [], _ => by simp [D.pures]
  | d :: ds, h => by
    simp only [D.pures, Bool.and_eq_true]
    exact ⟨h d List.mem_cons_self, pures_of fun x hx => h x (List.mem_cons_of_mem _ hx)⟩
theorem opn_pure : ∀ {n : Nat} {d : D}, OpN n d → d.pure = true
  | 0, _, h => h.elim
  | n + 1, d, h => by
    have om := OpN.s.mp h
    rcases built_cases om.1.1 with ⟨x, rfl, _⟩ | ⟨x, l0, rfl, hx, hl0⟩ | ⟨x, b, rfl, hx⟩ | ⟨ps, b, rfl, hp⟩
    · simp [mkU, D.pure, D.pures]
    · have := om.2
      rw [inn_W] at this
      have e := pures_of fun d hd => opn_pure (this d hd)
      simp [mkW, D.pure, D.pures, e]
    · have := om.2
      rw [inn_F] at this
      have e := opn_pure (this b (List.mem_singleton.mpr rfl))
      simp [mkF, D.pure, D.pures, e]
    · have := om.2
      rw [inn_L] at this
      have e := opn_pure (this b (List.mem_append_right _ (List.mem_singleton.mpr rfl)))
      have e2 : D.pures (mkPs ps) = true := pures_of fun d hd => by
        obtain ⟨p, hp, rfl⟩ := List.mem_map.mp hd
        have := opn_pure (this p.2 (List.mem_append_left _ (List.mem_map.mpr ⟨p, hp, rfl⟩)))
        simp [D.pure, D.pures, this]
      simp [mkL, D.pure, D.pures, e, e2]
theorem sqT_dict {K : PySem.W.Frag} {H : Hp} {p : Addr} {kvs kvs' : List (Key × V)} (hp : H p = some (.dK kvs)) : ∀ b xs, SqT K H b xs → SqT K (upd H p (.dK kvs')) b xs := by
  intro b xs h
  by_cases e : b = p
  · rcases h with (h | ⟨o, h⟩) | h
    · rw [e, hp] at h
      cases h
    · rw [e, hp] at h
      cases h
    · exact .inr h
  · rcases h with (h | ⟨o, h⟩) | h
    · exact .inl (.inl (by rw [upd_ne e]; exact h))
    · exact .inl (.inr ⟨o, by rw [upd_ne e]; exact h⟩)
    · exact .inr h
end Sl

set_option Elab.async false
set_option linter.all false
set_option maxRecDepth 100000
set_option maxHeartbeats 400000
/-! ## Graph(*nodes) -/
namespace Sl
open PySem PySem.Spec PyProof.Rows L2
abbrev sGInit : Stmt := inClass (topT 31) 0
theorem scGInit : FnScope ["self", "nodes"] ([("self" : Str)] ++ [("nodes" : Str)]) (defScope sGInit) := ⟨rfl, rfl, rfl, by decide +kernel, rfl, by decide +kernel, by decide +kernel⟩
theorem fl {fs : List (Str × V)} {f : Str} {v : V} {k : Nat} (h : fs.length ≤ k) : (putF f v fs).length ≤ k + 1 := Nat.le_trans (length_putF f v fs) (by omega)
def grF (vN : V) (pR pS : Addr) : List (Str × V) := putF "_scopes" (.ref pS) (putF "_needs" (.ref pR) (putF "_nodes" vN []))
section
variable {vN : V} {pR pS : Addr}
theorem gr_N : (grF vN pR pS).lookup ("_nodes" : Str) = some vN := by
  unfold grF
  rw [lookup_putF, if_neg (by decide +kernel), lookup_putF, if_neg (by decide +kernel), lookup_putF, if_pos rfl]
theorem gr_R : (grF vN pR pS).lookup ("_needs" : Str) = some (.ref pR) := by
  unfold grF
  rw [lookup_putF, if_neg (by decide +kernel), lookup_putF, if_pos rfl]
theorem gr_S : (grF vN pR pS).lookup ("_scopes" : Str) = some (.ref pS) := by
  unfold grF
  rw [lookup_putF, if_pos rfl]
theorem gr_no {m : Str} (h1 : ¬ m = "_scopes") (h2 : ¬ m = "_needs") (h3 : ¬ m = "_nodes") : (grF vN pR pS).lookup m = none := by
  unfold grF
  rw [lookup_putF, if_neg h1, lookup_putF, if_neg h2, lookup_putF, if_neg h3]
  rfl
end
/-- the class -/
structure Gr (K : PySem.W.Frag) (mg : Str → Option Value) (C : Addr) : Prop where
  cl : Cls K C
  nN : NoAttr K C "_nodes"
  nR : NoAttr K C "_needs"
  nS : NoAttr K C "_scopes"
  mgC : mg "Graph" = some (.ref C)
/-- the graph of these nodes stands at x -/
structure GrAt (K : PySem.W.Frag) (C : Addr) (H : Hp) (x : Addr) (ns : List GN) (R S : List (List Nat)) : Prop where
  ex : ∃ (dx pR pS : Addr) (vN : V), H x = some (.ins C dx (grF vN pR pS)) ∧ Rdd K H vN (.tup (ns.map ndD)) ∧ RowsAt K H pR R ∧ RowsAt K H pS S
  rows : RowsOk ns R
  sc : Sc R S
theorem RowsAt.ex {K : PySem.W.Frag} {H H' : Hp} {p : Addr} {R : List (List Nat)} (h : RowsAt K H p R) (s : Same H H') : RowsAt K H' p R := by
  obtain ⟨ys, h1, h2⟩ := h
  exact ⟨ys, s _ _ h1, RddAll.ex (Ex.same s) _ h2⟩
theorem GrAt.same {K : PySem.W.Frag} {C : Addr} {H H' : Hp} {x : Addr} {ns : List GN} {R S : List (List Nat)} (h : GrAt K C H x ns R S) (s : Same H H') : GrAt K C H' x ns R S := by
  obtain ⟨dx, pR, pS, vN, h1, h2, h3, h4⟩ := h.ex
  exact ⟨⟨dx, pR, pS, vN, s _ _ h1, Rdd.ex (Ex.same s) _ h2, h3.ex s, h4.ex s⟩, h.rows, h.sc⟩
theorem pures_map {α : Type} (f : α → D) : ∀ l : List α, (∀ x ∈ l, (f x).pure = true) → D.pures (l.map f) = true
  | [], _ => by rw [List.map_nil, D.pures]
  | a :: l, h => by
    rw [List.map_cons, D.pures, h a List.mem_cons_self, pures_map f l fun x hx => h x (List.mem_cons_of_mem _ hx)]
    rfl
theorem iD_pure (l : List Nat) : (D.tup (iD l)).pure = true := by
  rw [D.pure]
  exact pures_map _ l fun x _ => by rw [D.pure] <;> simp
theorem ndD_pure (g : GN) : (ndD g).pure = true := by
  have h := iD_pure
  cases g with
  | W x cs =>
    unfold ndD
    rw [D.pure, D.pures, D.pures, D.pures, h cs, D.pures]
    simp [D.pure]
  | F c => simp [ndD, D.pure, D.pures]
  | V f => simp [ndD, D.pure, D.pures]
theorem nodes_pure (ns : List GN) : (D.tup (ns.map ndD)).pure = true := by
  rw [D.pure]
  exact pures_map _ ns fun g _ => ndD_pure g
/-- data stay when an instance's fields are set -/
theorem Rdd.off {K : PySem.W.Frag} {G G' : Hp} {x C dx : Addr} {fs : List (Str × V)} (gx : G x = some (.ins C dx fs)) (o : Off x G G') {v : V} {d : D} (pu : d.pure = true) (r : Rdd K G v d) : Rdd K G' v d := Rdd.keep (fun b xs hb => by
    rcases hb with (hb | ⟨o', hb⟩) | hb
    · exact .inl (.inl (o _ _ (fun z => by rw [z, gx] at hb; cases hb) hb))
    · exact .inl (.inr ⟨o', o _ _ (fun z => by rw [z, gx] at hb; cases hb) hb⟩)
    · exact .inr hb) _ pu r
theorem RddAll.off {K : PySem.W.Frag} {G G' : Hp} {x C dx : Addr} {fs : List (Str × V)} (gx : G x = some (.ins C dx fs)) (o : Off x G G') : ∀ {vs : List V} {ds : List D}, (∀ d ∈ ds, d.pure = true) → RddAll K G vs ds → RddAll K G' vs ds
  | _, _, _, .nil => .nil
  | _, _, h, .cons a b => .cons (Rdd.off gx o (h _ List.mem_cons_self) a) (RddAll.off gx o (fun d hd => h d (List.mem_cons_of_mem _ hd)) b)
theorem RowsAt.off {K : PySem.W.Frag} {G G' : Hp} {x C dx p : Addr} {fs : List (Str × V)} {R : List (List Nat)} (gx : G x = some (.ins C dx fs)) (o : Off x G G') (h : RowsAt K G p R) : RowsAt K G' p R := by
  obtain ⟨ys, h1, h2⟩ := h
  refine ⟨ys, o _ _ (fun z => by rw [z, gx] at h1; cases h1) h1, RddAll.off gx o (fun d hd => ?_) h2⟩
  obtain ⟨r, _, rfl⟩ := List.mem_map.mp hd
  exact iD_pure r
/-- nodes that a graph is made of -/
structure GV (ns : List GN) : Prop where
  pos : 0 < ns.length
  big : ns.length ≤ 100
  rng : ∀ g ∈ ns, Rng ns.length g
  ar : arB ns = true
  free : Free ns
theorem GV.own {ns : List GN} (h : GV ns) : (own ns).Nodup := by
  have := h.ar
  unfold arB at this
  rw [Bool.and_eq_true] at this
  exact of_decide_eq_true this.2
section
variable {P : Program} {w : World} {K : PySem.W.Frag} {mg : Str → Option Value} {base : Heap} {C : Addr} {fWh fBe fNm fKd fWk fRw fPo fNd fAn : Addr} {dWh dBe dNm dKd dWk dRw dPo dNd dAn : FuncData}
/-- the defs of graphs -/
structure Gd (K : PySem.W.Frag) (mg : Str → Option Value) (fPa fIn fNe fSc fWa fPt fNu : Addr) (dPa dIn dNe dSc dWa dPt dNu : FuncData) : Prop where
  FPa : Fun K "parents_of" "parents_of" sParents fPa dPa
  bPa : Binds K dPa ["nodes"] []
  gPa : mg "parents_of" = some (.ref fPa)
  FIn : Fun K "_in_need" "_in_need" sInNeed fIn dIn
  bIn : Binds K dIn ["parents", "variable", "function"] []
  gIn : mg "_in_need" = some (.ref fIn)
  FNe : Fun K "needs_of" "needs_of" sNeeds fNe dNe
  bNe : Binds K dNe ["nodes"] []
  gNe : mg "needs_of" = some (.ref fNe)
  FSc : Fun K "scopes_of" "scopes_of" sScopes fSc dSc
  bSc : Binds K dSc ["needs"] []
  gSc : mg "scopes_of" = some (.ref fSc)
  FWa : Fun K "first_walk" "first_walk" sWalk fWa dWa
  bWa : Binds K dWa ["inner", "root"] []
  gWa : mg "first_walk" = some (.ref fWa)
  FPt : Fun K "pointed" "pointed" sPointed fPt dPt
  bPt : Binds K dPt ["node", "numbers"] []
  gPt : mg "pointed" = some (.ref fPt)
  FNu : Fun K "numbered" "numbered" sNumbered fNu dNu
  bNu : Binds K dNu ["nodes", "root"] []
  gNu : mg "numbered" = some (.ref fNu)
variable {fPa fIn fNe fSc fWa fPt fNu : Addr} {dPa dIn dNe dSc dWa dPt dNu : FuncData}
def spGInit (K : PySem.W.Frag) (C : Addr) : Sp := fun vs H Q _ => ∃ (x dx p : Addr) (us : List V) (ns : List GN), vs = [.ref x, .ref p] ∧ H x = some (.ins C dx []) ∧ H p = some (.tup us) ∧ RddAll K H us (ns.map ndD) ∧ GV ns ∧
  ∀ o R S H', FW (kd ns) [] [0] o → o.Nodup → (∀ i ∈ o, i < ns.length) → Off x H H' → GrAt K C H' x (ren ns o) R S → Q .non H'
theorem run_gInit (N : Gn K mg fWh fBe fNm fKd fWk fRw fPo fNd fAn dWh dBe dNm dKd dWk dRw dPo dNd dAn) (Dg : Gd K mg fPa fIn fNe fSc fWa fPt fNu dPa dIn dNe dSc dWa dPt dNu) (U : Tops K mg) (Bi' : Bi mg) (B : Bt mg) (L : Gr K mg C)
    {cdv : Value} {A : Around} {outer : List Env} {s : Shared} {H : Hp} {vs : List V} {f : Addr} {Q : VK} {E : XK} (hr : Room 5 (A.deeper (envOfC "Graph.__init__" (defScope sGInit) s.heap.objs.size f cdv))) (h : spGInit K C vs H Q E) :
    ∃ t, PSs (cxOf CX0 P w K mg base ["self", "nodes"] "Graph.__init__" (defScope sGInit) f cdv A outer s H E) (defBody sGInit) t ∧ t { nx := fun _ H' => Q .non H', rt := Q } (start ["self", "nodes"] vs) H := by
  have GA : FnOk P w K mg base CX0 5 fAn dAn ["values"] (spAreN K) := ok_areN N U Bi' B
  have GN : FnOk P w K mg base CX0 3 fNe dNe ["nodes"] (spNeeds K) := ok_needs N Dg.FNe Dg.FPa Dg.bPa Dg.gPa Dg.FIn Dg.bIn Dg.gIn B
  have GS : FnOk P w K mg base CX0 1 fSc dSc ["needs"] (spScopes K) := ok_scopes Dg.FSc B
  have GU : FnOk P w K mg base CX0 3 fNu dNu ["nodes", "root"] (spNumbered K) := ok_numbered N Dg.FNu Dg.FWa Dg.bWa Dg.gWa Dg.FPt Dg.bPt Dg.gPt B
  have h1 := hr.mono (by decide : 1 ≤ 5)
  have h3 := hr.mono (by decide : 3 ≤ 5)
  obtain ⟨tM, gM⟩ := U.nodes
  have sl := sizeLine_eq
  obtain ⟨x, dx, p, us, ns, rfl, hx, hp, hus, gv, q⟩ := h
  --D
  refine ⟨_, (pss_cons (ps_if (pt_not (pt_val (pe_call GA hr (by rfl) N.gAn N.FAn.kp N.bAn .nil pass0 (pa_cons (pv 1) pa_nil))))
          (pss_one ps_never) pss_nil)
        (pss_cons (ps_if (pt_cmpR op_gt (pe_callB call_len_seq (by rfl) B.len PySem.boot_len (pa_cons (pe_ix ix_list (pe_call GN h3 (by rfl) Dg.gNe Dg.FNe.kp Dg.bNe .nil pass0 (pa_cons (pv 1) pa_nil)) pe_int (fun _ _ => rfl)) pa_nil)) pe_int (nomark _))
          (pss_one ps_never) pss_nil)
        (pss_cons (ps_fld (pv 0) (pe_call GU h3 (by rfl) Dg.gNu Dg.FNu.kp Dg.bNu .nil pass0 (pa_cons (pv 1) (pa_cons pe_int pa_nil))) rfl)
        (pss_cons (ps_if (pt_cmpR op_gt (pe_callB call_len_seq (by rfl) B.len PySem.boot_len (pa_cons (pe_fld (pv 0) rfl) pa_nil)) (pe_glob (v := .int 100) (by rfl) gM ⟨_, rfl⟩) (nomark _))
          (pss_one ps_never) pss_nil)
        (pss_cons (ps_fld (pv 0) (pe_call GN h3 (by rfl) Dg.gNe Dg.FNe.kp Dg.bNe .nil pass0 (pa_cons (pe_fld (pv 0) rfl) pa_nil)) rfl)
        (pss_one (ps_fld (pv 0) (pe_call GS h1 (by rfl) Dg.gSc Dg.FSc.kp Dg.bSc .nil pass0 (pa_cons (pe_fld (pv 0) rfl) pa_nil)) rfl))))))), ?_⟩
  --E
  have lno : ∀ {o : List Nat}, o.Nodup → (∀ i ∈ o, i < ns.length) → o.length ≤ ns.length := fun nd lt => nd_len' nd lt
  have hb := gv.big
  have ru : Rdd K H (.ref p) (.tup (ns.map ndD)) := tup_val hp hus (by rw [List.length_map]; omega)
  refine ⟨_, rfl, .ref p, ns, rfl, ru, gv.pos, gv.rng, (by omega), fun H1 s1 => ?_⟩
  rw [gv.ar]
  refine ⟨_, rfl, iteF ?_⟩
  -- needs_of(nodes)[0] is empty
  refine ⟨_, rfl, .ref p, ns, rfl, Rdd.ex (Ex.same s1) _ ru, gv.rng, gv.own, (by omega), fun pq H2 R0 s2 _ ⟨ys, hys, rys⟩ ok0 => ?_⟩
  have pos0 : 0 < R0.length := by rw [ok0.len]; exact gv.pos
  have hr0 : R0[0]? = some R0[0] := List.getElem?_eq_getElem pos0
  have e0 : R0[0] = [] := (free_row (ok0.row 0 _ hr0)).mpr gv.free
  rw [e0] at hr0
  obtain ⟨y0, hy0, ry0⟩ := rys.at (i := 0) (d := .tup (iD [])) (by rw [List.getElem?_map, hr0]; rfl)
  obtain ⟨a0, xs0, rfl, ha0, hx0, _⟩ := ry0.tupd'
  cases hx0
  refine ⟨pq, ys, (0 : Int), _, rfl, rfl, SqL.of hys, atI_nat (j := 0) hy0, a0, [], rfl, .inr ha0, _, _, rfl, rfl, _, rfl, ?_⟩
  rw [decide_eq_false (by decide)]
  refine iteF ?_
  -- self._nodes
  have s02 := s1.trans s2
  have fr := gv.free
  refine ⟨_, rfl, .ref p, ns, 0, rfl, Rdd.ex (Ex.same s02) _ ru, gv.rng, gv.pos, (by omega), ?_, fun o v H3 fw nd lt s3 rv => ?_⟩
  · intro o fw
    exact walk_closed fr fw (fw.lt (kd_rng gv.rng) (fun i hi => by cases hi) fun i hi => by rw [List.mem_singleton.mp hi]; exact gv.pos)
  have cl := walk_closed fr fw lt
  have lo := lno nd lt
  have s03 := s02.trans s3
  have hx3 := s03 _ _ hx
  refine ⟨_, rfl, x, C, dx, [], rfl, hx3, L.cl, L.nN, (by show 0 < 1000; decide), ?_⟩
  have o4 : Off x H3 (upd H3 x (.ins C dx (putF "_nodes" v []))) := .put
  have rv4 := Rdd.off hx3 o4 (nodes_pure _) rv
  have hx4 : (upd H3 x (.ins C dx (putF "_nodes" v []))) x = some (.ins C dx (putF "_nodes" v [])) := upd_same
  generalize upd H3 x (.ins C dx (putF "_nodes" v [])) = H4 at o4 rv4 hx4 ⊢
  -- len(self._nodes) > MAX_NODES
  obtain ⟨c0, cs, rfl, hc0, hcs, _⟩ := id rv4.tupd'
  have lcs : cs.length = o.length := by rw [hcs.length, List.length_map, ren_len]
  have lkN : (putF "_nodes" (V.ref c0) []).lookup ("_nodes" : Str) = some (.ref c0) := by rw [lookup_putF, if_pos rfl]
  refine ⟨_, rfl, x, C, dx, _, _, rfl, hx4, L.cl, L.nN, lkN, c0, cs, rfl, .inr hc0, _, _, rfl, rfl, _, rfl, ?_⟩
  rw [decide_eq_false (by omega)]
  refine iteF ?_
  -- self._needs
  have rng2 := ren_rng lt cl gv.rng
  have own2 := ren_own nd lt cl gv.own
  have wo := ren_wo fr fw nd lt
  have l2 : (ren ns o).length ≤ 4000 := by rw [ren_len]; omega
  refine ⟨_, rfl, x, C, dx, _, _, rfl, hx4, L.cl, L.nN, lkN, .ref c0, ren ns o, rfl, rv4, rng2, own2, l2, fun pR H5 R s5 nR aR okR => ?_⟩
  have hx5 := s5 _ _ hx4
  refine ⟨_, rfl, x, C, dx, _, rfl, hx5, L.cl, L.nR, (Nat.lt_of_le_of_lt (fl (Nat.le_refl _)) (by decide)), ?_⟩
  have o6 : Off x H5 (upd H5 x (.ins C dx (putF "_needs" (.ref pR) (putF "_nodes" (.ref c0) [])))) := .put
  have rv6 := Rdd.off hx5 o6 (nodes_pure _) (Rdd.ex (Ex.same s5) _ rv4)
  have aR6 := RowsAt.off hx5 o6 aR
  have hx6 : (upd H5 x (.ins C dx (putF "_needs" (.ref pR) (putF "_nodes" (.ref c0) [])))) x = some (.ins C dx (putF "_needs" (.ref pR) (putF "_nodes" (.ref c0) []))) := upd_same
  generalize upd H5 x (.ins C dx (putF "_needs" (.ref pR) (putF "_nodes" (.ref c0) []))) = H6 at o6 rv6 aR6 hx6 ⊢
  have lkR : (putF "_needs" (V.ref pR) (putF "_nodes" (V.ref c0) [])).lookup ("_needs" : Str) = some (.ref pR) := by rw [lookup_putF, if_pos rfl]
  refine ⟨_, rfl, x, C, dx, _, _, rfl, hx6, L.cl, L.nR, lkR, pR, R, rfl, aR6, rows_back wo okR l2, (by rw [okR.len]; exact l2), fun pS H7 S s7 nS aS sc => ?_⟩
  have hx7 := s7 _ _ hx6
  refine ⟨_, rfl, x, C, dx, _, rfl, hx7, L.cl, L.nS, (Nat.lt_of_le_of_lt (fl (fl (Nat.le_refl _))) (by decide)), ?_⟩
  have o8 : Off x H7 (upd H7 x (.ins C dx (grF (.ref c0) pR pS))) := .put
  refine q o R S _ fw nd lt ?_ ⟨⟨dx, pR, pS, .ref c0, upd_same, Rdd.off hx7 o8 (nodes_pure _) (Rdd.ex (Ex.same s7) _ rv6), RowsAt.off hx7 o8 (aR6.ex s7), RowsAt.off hx7 o8 aS⟩, okR, sc⟩
  exact ((((Off.same s03).trans o4).trans (Off.same s5)).trans o6).trans ((Off.same s7).trans o8)
end
end Sl

set_option Elab.async false
set_option linter.all false
set_option maxRecDepth 100000
set_option maxHeartbeats 400000
/-! ## Graph.of and the readings of a graph -/
namespace Sl
open PySem PySem.Spec PyProof.Rows L2
abbrev sGOf : Stmt := inClass (topT 31) 1
abbrev sGNeeds : Stmt := inClass (topT 31) 4
abbrev sGInner : Stmt := inClass (topT 31) 5
abbrev sGScope : Stmt := inClass (topT 31) 6
abbrev sGCheck : Stmt := inClass (topT 31) 11
theorem scGOf : FnScope ["cls", "nodes"] ["cls", "nodes"] (defScope sGOf) := ⟨rfl, rfl, rfl, by decide +kernel, rfl, by decide +kernel, by decide +kernel⟩
theorem scGNeeds : FnScope ["self", "node"] ["self", "node"] (defScope sGNeeds) := ⟨rfl, rfl, rfl, by decide +kernel, rfl, by decide +kernel, by decide +kernel⟩
theorem scGInner : FnScope ["self", "node", "needs"] ["self", "node"] (defScope sGInner) := ⟨rfl, rfl, rfl, by decide +kernel, rfl, by decide +kernel, by decide +kernel⟩
theorem scGScope : FnScope ["self", "node"] ["self", "node"] (defScope sGScope) := ⟨rfl, rfl, rfl, by decide +kernel, rfl, by decide +kernel, by decide +kernel⟩
theorem scGCheck : FnScope ["self", "node"] ["self", "node"] (defScope sGCheck) := ⟨rfl, rfl, rfl, by decide +kernel, rfl, by decide +kernel, by decide +kernel⟩
/-- a method -/
structure Me (K : PySem.W.Frag) (C : Addr) (nm qual : Str) (st : Stmt) (ps : List Str) (f : Addr) (fd : FuncData) : Prop where
  F : Fun K nm qual st f fd
  M : Meth K C nm f
  b : Binds K fd ps []
section
variable {P : Program} {w : World} {K : PySem.W.Frag} {mg : Str → Option Value} {base : Heap} {C : Addr} {fWh fBe fNm fKd fWk fRw fPo fNd fAn : Addr} {dWh dBe dNm dKd dWk dRw dPo dNd dAn : FuncData}
variable {fPa fIn fNe fSc fWa fPt fNu : Addr} {dPa dIn dNe dSc dWa dPt dNu : FuncData}
/-- what Graph(*nodes) asks -/
def spGMake (K : PySem.W.Frag) (C : Addr) : Sp := fun vs H Q E => ∃ ws rest, vs = ws ++ rest ∧ ws.length = [("self" : Str)].length ∧ rest.length ≤ sizeLine ∧ ∀ p, H p = Option.none → spGInit K C (ws ++ [V.ref p]) (upd H p (.tup rest)) Q E
theorem ok_gMake (N : Gn K mg fWh fBe fNm fKd fWk fRw fPo fNd fAn dWh dBe dNm dKd dWk dRw dPo dNd dAn) (Dg : Gd K mg fPa fIn fNe fSc fWa fPt fNu dPa dIn dNe dSc dWa dPt dNu) (U : Tops K mg) (Bi' : Bi mg) (B : Bt mg) (L : Gr K mg C)
    {f : Addr} {fd : FuncData} (F : Fun K "__init__" "Graph.__init__" sGInit f fd) : FnR P w K mg base CX0 6 f (spGMake K C) := by
  obtain ⟨oc, od, kV, doc, pm, an, cdv, ct, osl, rfl, lk, hcd⟩ := F.ex
  refine StX.fn_star (ps := ["self"]) (pv := "nodes") lk hcd scGInit StX.cxUp_none ?_ ?_
  · exact StX.bind_star1 (B := fun as => bindArgs (PySem.W.fnOf "__init__" "Graph.__init__" (defArgs sGInit) (defBody sGInit) (defScope sGInit) .none kV doc pm an cdv ct) ⟨as, []⟩) (p1 := "self") (pv := "nodes") (fun a => by first | rfl | with_unfolding_all rfl | kernel_rfl) (fun a r rs => by first | rfl | with_unfolding_all rfl | kernel_rfl)
  · intro A outer s H vs Q E hr h
    exact run_gInit N Dg U Bi' B L hr h
theorem same_made {H H' : Hp} {x dx p C : Addr} {rest : List V} (nx : H x = none) (ndx : H dx = none) (np : (upd (upd H dx (.own x)) x (.ins C dx [])) p = none) (o : Off x (upd (upd (upd H dx (.own x)) x (.ins C dx [])) p (.tup rest)) H') : Same H H' := fun b u e => by
  have b1 : b ≠ x := ne_of_none e nx
  have b2 : b ≠ dx := ne_of_none e ndx
  have e1 : (upd (upd H dx (.own x)) x (.ins C dx [])) b = some u := by rw [upd_ne b1, upd_ne b2]; exact e
  exact o b u b1 (by rw [upd_ne (ne_of_none e1 np)]; exact e1)
/-- what a call that makes a graph of these nodes may use -/
theorem g_make {x dx : Addr} {xs : List V} {ns : List GN} {H : Hp} {Q : VK} {E : XK} (gv : GV ns) (nx : H x = none) (ndx : H dx = none) (ne : dx ≠ x) (r : RddAll K H xs (ns.map ndD))
    (q : ∀ o R S H', FW (kd ns) [] [0] o → o.Nodup → (∀ i ∈ o, i < ns.length) → Same H H' → GrAt K C H' x (ren ns o) R S → Q (.ref x) H') :
    spGMake K C (V.ref x :: xs) (upd (upd H dx (.own x)) x (.ins C dx [])) (fun v H2 => v = .non ∧ Q (.ref x) H2) E := by
  have sl := sizeLine_eq
  have lx : xs.length = ns.length := by rw [r.length, List.length_map]
  have hb := gv.big
  refine ⟨[V.ref x], xs, rfl, rfl, by omega, fun p np => ?_⟩
  have s1 : Same H (upd (upd H dx (.own x)) x (.ins C dx [])) := (Same.new ndx).trans (Same.new (by rw [upd_ne (Ne.symm ne)]; exact nx))
  have s2 := Same.new (o := .tup xs) np
  refine ⟨x, dx, p, xs, ns, rfl, s2 _ _ upd_same, upd_same, RddAll.ex (Ex.same (s1.trans s2)) _ r, gv, fun o R S H' fw nd lt off gr => ⟨rfl, q o R S H' fw nd lt (same_made nx ndx np off) gr⟩⟩
def spGOf (K : PySem.W.Frag) (C : Addr) : Sp := fun vs H Q _ => ∃ (u : V) (ns : List GN), vs = [.ref C, u] ∧ Rdd K H u (.tup (ns.map ndD)) ∧ GV ns ∧
  ∀ o R S x H', FW (kd ns) [] [0] o → o.Nodup → (∀ i ∈ o, i < ns.length) → Same H H' → GrAt K C H' x (ren ns o) R S → Q (.ref x) H'
theorem ok_gOf (N : Gn K mg fWh fBe fNm fKd fWk fRw fPo fNd fAn dWh dBe dNm dKd dWk dRw dPo dNd dAn) (Dg : Gd K mg fPa fIn fNe fSc fWa fPt fNu dPa dIn dNe dSc dWa dPt dNu) (U : Tops K mg) (Bi' : Bi mg) (B : Bt mg) (L : Gr K mg C)
    {f fI : Addr} {fd fdI : FuncData} (F : Fun K "of" "Graph.of" sGOf f fd) (FI : Fun K "__init__" "Graph.__init__" sGInit fI fdI) (M : Mk K C fI) : FnOk P w K mg base CX0 8 f fd ["cls", "nodes"] (spGOf K C) := by
  have GM : FnR P w K mg base CX0 6 fI (spGMake K C) := ok_gMake N Dg U Bi' B L FI
  refine F.ok scGOf (fun vs H Q E h => ?_) (fun cdv A outer s H vs Q E hr h => ?_)
  · obtain ⟨u, ns, rfl, _⟩ := h
    rfl
  · obtain ⟨u, ns, rfl, hu, gv, q⟩ := h
    --D
    refine ⟨_, (pss_cons (ps_if (pt_not (pt_val (pe_callB call_isi (by rfl) B.isi (by decide +kernel) (pa_cons (pv 1) (pa_cons (pe_bltn (v := .ty "tuple") (by rfl) B.tuple (by decide +kernel) rfl) pa_nil)))))
          (pss_one ps_never) pss_nil)
        (pss_one (ps_ret (pe_makeSL (i := 0) M GM hr (by rfl) (Or.inl rfl) pass0 (pv 1))))), ?_⟩
    --E
    have hty := hu.ty
    obtain ⟨a0, xs, rfl, hs, hx, _⟩ := hu.tupd'
    refine ⟨_, rfl, V.ref a0, .ty "tuple", _, _, isA "tuple" (.tup (ns.map ndD)), rfl, .ty _, hty, kit_isA (by decide +kernel), _, rfl, ?_⟩
    rw [isA_tuple]
    refine iteF ⟨rfl, _, rfl, a0, xs, rfl, .inl hs, fun x dx nx ndx ne => ?_⟩
    exact g_make gv nx ndx ne hx fun o R S H' fw nd lt s gr => q o R S x H' fw nd lt s gr
/-! ### readings -/
def spCheckB (K : PySem.W.Frag) : Sp := fun vs H Q _ => ∃ (i n : Nat), vs = [.int (i : Nat), .int (n : Nat)] ∧ i < n ∧ Q .non H
theorem ok_checkB (N : Gn K mg fWh fBe fNm fKd fWk fRw fPo fNd fAn dWh dBe dNm dKd dWk dRw dPo dNd dAn) (Bi' : Bi mg) {f : Addr} {fd : FuncData} (F : Fun K "check_below" "check_below" sCheckB f fd) : FnOk P w K mg base CX0 3 f fd ["value", "limit"] (spCheckB K) := by
  have GB : FnOk P w K mg base CX0 2 fBe dBe ["value", "limit"] (spBelow K) := ok_below N.FBe N.FWh N.bWh N.gWh Bi'
  refine F.ok scCheckB (fun vs H Q E h => ?_) (fun cdv A outer s H vs Q E hr h => ?_)
  · obtain ⟨i, n, rfl, _⟩ := h
    rfl
  · obtain ⟨i, n, rfl, hi, q⟩ := h
    --DB
    refine ⟨_, (pss_one (ps_if (pt_not (pt_val (pe_call GB hr (by rfl) N.gBe N.FBe.kp N.bBe .nil pass0 (pa_cons (pv 0) (pa_cons (pv 1) pa_nil)))))
          (pss_one ps_never) pss_nil)), ?_⟩
    --EB
    refine ⟨_, rfl, _, rfl, V.int (i : Nat), .int (i : Nat), (n : Int), rfl, .int _, _, rfl, ?_⟩
    rw [show dBelow (n : Int) (.int (i : Nat)) = true by
      show (decide ((0 : Int) ≤ (i : Nat)) && decide (((i : Nat) : Int) < n)) = true
      rw [decide_eq_true (by omega), decide_eq_true (by omega)]
      rfl]
    exact iteF q
end
end Sl

set_option Elab.async false
set_option linter.all false
set_option maxRecDepth 100000
set_option maxHeartbeats 400000
/-! ## Graph.check -/
namespace Sl
open PySem PySem.Spec PyProof.Rows L2
section
variable {P : Program} {w : World} {K : PySem.W.Frag} {mg : Str → Option Value} {base : Heap} {C : Addr} {fWh fBe fNm fKd fWk fRw fPo fNd fAn : Addr} {dWh dBe dNm dKd dWk dRw dPo dNd dAn : FuncData}
def spGCheck (K : PySem.W.Frag) (C : Addr) : Sp := fun vs H Q _ => ∃ (x : Addr) (i : Nat) (ns : List GN) (R S : List (List Nat)), vs = [.ref x, .int (i : Nat)] ∧ GrAt K C H x ns R S ∧ i < ns.length ∧ Q .non H
theorem ok_gCheck (N : Gn K mg fWh fBe fNm fKd fWk fRw fPo fNd fAn dWh dBe dNm dKd dWk dRw dPo dNd dAn) (Bi' : Bi mg) (B : Bt mg) (L : Gr K mg C) {f fCb : Addr} {fd fdCb : FuncData} (F : Fun K "check" "Graph.check" sGCheck f fd)
    (FCb : Fun K "check_below" "check_below" sCheckB fCb fdCb) (bCb : Binds K fdCb ["value", "limit"] []) (gCb : mg "check_below" = some (.ref fCb)) : FnOk P w K mg base CX0 4 f fd ["self", "node"] (spGCheck K C) := by
  have GC : FnOk P w K mg base CX0 3 fCb fdCb ["value", "limit"] (spCheckB K) := ok_checkB N Bi' FCb
  refine F.ok scGCheck (fun vs H Q E h => ?_) (fun cdv A outer s H vs Q E hr h => ?_)
  · obtain ⟨x, i, ns, R, S, rfl, _⟩ := h
    rfl
  · obtain ⟨x, i, ns, R, S, rfl, gr, hi, q⟩ := h
    obtain ⟨dx, pR, pS, vN, hx, rv, aR, aS⟩ := gr.ex
    --D
    refine ⟨_, (pss_one (ps_expr (pe_call GC hr (by rfl) gCb FCb.kp bCb .nil pass0 (pa_cons (pv 1) (pa_cons (pe_callB call_len_seq (by rfl) B.len PySem.boot_len (pa_cons (pe_fld (pv 0) rfl) pa_nil)) pa_nil))))), ?_⟩
    --E
    obtain ⟨a0, xs, rfl, hs, hxs, _⟩ := rv.tupd'
    have lx : xs.length = ns.length := by rw [hxs.length, List.length_map]
    refine ⟨_, rfl, _, rfl, x, C, dx, _, _, rfl, hx, L.cl, L.nN, gr_N, a0, xs, rfl, .inr hs, ?_⟩
    rw [lx]
    exact ⟨i, ns.length, rfl, hi, q⟩
def spGRow (K : PySem.W.Frag) (C : Addr) (pick : List (List Nat) → List (List Nat) → List (List Nat)) : Sp := fun vs H Q _ => ∃ (x : Addr) (i : Nat) (ns : List GN) (R S : List (List Nat)) (row : List Nat), vs = [.ref x, .int (i : Nat)] ∧ GrAt K C H x ns R S ∧ (pick R S)[i]? = some row ∧ i < ns.length ∧ ∀ v, Rdd K H v (.tup (iD row)) → Q v H
end
end Sl

set_option Elab.async false
set_option linter.all false
set_option maxRecDepth 100000
set_option maxHeartbeats 400000
/-! ## Graph's walks: below, reached, is_on_ring -/
namespace Sl
open PySem PySem.Spec PyProof.Rows L2
abbrev sGBelow : Stmt := inClass (topT 31) 12
theorem scGBelow : FnScope ["self", "starts", "inner", "found", "start", "number", "node"] ["self", "starts"] (defScope sGBelow) := ⟨rfl, rfl, rfl, by decide +kernel, rfl, by decide +kernel, by decide +kernel⟩
/-- from a one gets to b -/
inductive Rc (k : Nat → List Nat) (a : Nat) : Nat → Prop
  | here : Rc k a a
  | on {b c : Nat} : Rc k a b → c ∈ k b → Rc k a c
theorem Rc.front {k : Nat → List Nat} {a b c : Nat} (h : b ∈ k a) (r : Rc k b c) : Rc k a c := by
  induction r with
  | here => exact .on .here h
  | on _ hc ih => exact ih.on hc
theorem FW.sound {k : Nat → List Nat} {r : Nat} {m st o : List Nat} (h : FW k m st o) : (∀ i ∈ m, Rc k r i) → (∀ i ∈ st, Rc k r i) → ∀ i ∈ o, Rc k r i := by
  induction h with
  | nil => exact fun h1 _ => h1
  | old _ _ ih => exact fun h1 h2 => ih h1 fun i hi => h2 i (List.mem_cons_of_mem _ hi)
  | @new m st o s _ _ ih =>
    intro h1 h2
    have hs := h2 s List.mem_cons_self
    refine ih (fun i hi => ?_) fun i hi => ?_
    · rcases List.mem_append.mp hi with hi | hi
      · exact h1 i hi
      · rw [List.mem_singleton.mp hi]; exact hs
    · rcases List.mem_append.mp hi with hi | hi
      · exact hs.on hi
      · exact h2 i (List.mem_cons_of_mem _ hi)
theorem fw_rc {k : Nat → List Nat} {r : Nat} {o : List Nat} (h : FW k [] [r] o) {i : Nat} : i ∈ o ↔ Rc k r i := by
  refine ⟨h.sound (fun i hi => by cases hi) (fun i hi => by rw [List.mem_singleton.mp hi]; exact .here) i, fun rc => ?_⟩
  induction rc with
  | here => exact h.sub.2 r (List.mem_singleton.mpr rfl)
  | on _ hc ih => exact h.closed (fun a ha => by cases ha) _ ih _ hc
/-- put in, if it is not in -/
def insN (m : List Nat) (i : Nat) : List Nat := if i ∈ m then m else m ++ [i]
theorem kvI_ins (m : List Nat) (i : Nat) : putK (kvI m) (Sum.inl ((i : Nat) : Int)) (.bl true) = kvI (insN m i) := by
  unfold insN
  by_cases h : i ∈ m
  · rw [if_pos h]
    unfold putK
    have hv := kvI_some h
    have e : ((kvI m).any fun kv => decide (kv.1 = Sum.inl ((i : Nat) : Int))) = true := by
      unfold kvI
      exact List.any_eq_true.mpr ⟨_, List.mem_map.mpr ⟨i, h, rfl⟩, decide_eq_true rfl⟩
    rw [if_pos e]
    unfold kvI
    rw [List.map_map]
    refine List.map_congr_left fun j _ => ?_
    show (if (Sum.inl ((j : Nat) : Int) : Key) = Sum.inl ((i : Nat) : Int) then _ else _) = _
    split <;> rfl
  · rw [if_neg h, kvI_put h]
theorem insN_mem {m : List Nat} {i j : Nat} : j ∈ insN m i ↔ j ∈ m ∨ j = i := by
  unfold insN
  by_cases h : i ∈ m
  · rw [if_pos h]
    exact ⟨.inl, fun z => z.elim id fun e => e ▸ h⟩
  · rw [if_neg h, List.mem_append, List.mem_singleton]
theorem insN_nodup {m : List Nat} {i : Nat} (h : m.Nodup) : (insN m i).Nodup := by
  unfold insN
  by_cases hi : i ∈ m
  · rw [if_pos hi]; exact h
  · rw [if_neg hi]
    exact List.nodup_append.mpr ⟨h, by simp, fun a ha b hb e => hi (by rw [List.mem_singleton.mp hb] at e; exact e ▸ ha)⟩
theorem mem_take1 {α : Type} {l : List α} {i : Nat} {x : α} (h : l[i]? = some x) {y : α} : y ∈ l.take (i + 1) ↔ y ∈ l.take i ∨ y = x := by
  rw [List.take_succ, h, List.mem_append]
  simp
/-- a loop over a list or a tuple -/
theorem tFor_seq {K : PySem.W.Frag} {tl : TE} {a : Addr} {xs : List V} {g : TG} {tb : TS} {D : Ends} {σ : L2.St} {H0 H : Hp} (ht : ∀ Q : VK, Q (.ref a) H → tl σ H Q) (hs : H0 a = some (.lst xs) ∨ SqT K H0 a xs) (Pv : Nat → L2.St → Hp → Prop) (h0 : Pv 0 σ H) (hl : ∀ i σ' G, Pv i σ' G → Same H0 G)
    (step : ∀ i x σ' G, xs[i]? = some x → Pv i σ' G → g x σ' G fun σ2 H2 => tb { D with nx := Pv (i + 1), ct := Pv (i + 1), bk := D.nx } σ2 H2) (hd : ∀ σ' G, Pv xs.length σ' G → D.nx σ' G) : tFor (fun σ H R => iList K tl σ H R ∨ iTup K tl σ H R) g tb D σ H := by
  have s0 := hl 0 σ H h0
  rcases hs with hs | hs
  · exact Or.inl (ht _ ⟨a, rfl, ⟨_, SqL.of (s0 _ _ hs)⟩, for_list Pv h0 (fun i σ' G _ p => SqL.of (hl i σ' G p _ _ hs)) step hd⟩)
  · exact Or.inr (ht _ ⟨a, rfl, ⟨_, (Ex.same s0).tup hs⟩, for_tup Pv h0 (fun i σ' G _ p => (Ex.same (hl i σ' G p)).tup hs) step hd⟩)
/-- the nodes that are reached from these -/
structure Bel (k : Nat → List Nat) (n : Nat) (ss m : List Nat) : Prop where
  nd : m.Nodup
  mem : ∀ i, i ∈ m ↔ ∃ s ∈ ss, Rc k s i
  lt : ∀ i ∈ m, i < n
section
variable {P : Program} {w : World} {K : PySem.W.Frag} {mg : Str → Option Value} {base : Heap} {C : Addr} {fWh fBe fNm fKd fWk fRw fPo fNd fAn : Addr} {dWh dBe dNm dKd dWk dRw dPo dNd dAn : FuncData}
variable {fPa fIn fNe fSc fWa fPt fNu : Addr} {dPa dIn dNe dSc dWa dPt dNu : FuncData}
def spGBelow (K : PySem.W.Frag) (C : Addr) : Sp := fun vs H Q _ => ∃ (x a : Addr) (ss : List Nat) (ns : List GN) (R S : List (List Nat)), vs = [.ref x, .ref a] ∧ GrAt K C H x ns R S ∧ (∀ g ∈ ns, Rng ns.length g) ∧ ns.length ≤ 4000 ∧ (H a = some (.lst (iL ss)) ∨ SqT K H a (iL ss)) ∧ (∀ i ∈ ss, i < ns.length) ∧
  ∀ m p H', Bel (kd ns) ns.length ss m → Same H H' → H p = none → H' p = some (.lst (iL m)) → Q (.ref p) H'
theorem ok_gBelow (N : Gn K mg fWh fBe fNm fKd fWk fRw fPo fNd fAn dWh dBe dNm dKd dWk dRw dPo dNd dAn) (Dg : Gd K mg fPa fIn fNe fSc fWa fPt fNu dPa dIn dNe dSc dWa dPt dNu) (B : Bt mg) (L : Gr K mg C) {f : Addr} {fd : FuncData} (F : Fun K "below" "Graph.below" sGBelow f fd) : FnOk P w K mg base CX0 2 f fd ["self", "starts"] (spGBelow K C) := by
  have GK : FnOk P w K mg base CX0 1 fKd dKd ["node"] (spKids K) := ok_kids N
  have GW : FnOk P w K mg base CX0 1 fWa dWa ["inner", "root"] (spWalk K) := ok_walk Dg.FWa B
  refine F.ok scGBelow (fun vs H Q E h => ?_) (fun cdv A outer s H vs Q E hr h => ?_)
  · obtain ⟨x, a, ss, ns, R, S, rfl, _⟩ := h
    rfl
  · obtain ⟨x, a, ss, ns, R, S, rfl, gr, hg, hn, hs, hss, q⟩ := h
    have hu := hu_of hr
    have sl := sizeLine_eq
    obtain ⟨dx, pR, pS, vN, hx, rv, aR, aS⟩ := gr.ex
    --DB
    refine ⟨_, (pss_cons (ps_setLc (i := 2) (own := [("node", 6)]) (g := gName 6) (tt := tYes) (te := tCall (spKids K) [] E0 (tCons (tVar 6) tNil)) rfl scGBelow.nd rfl rfl (sw_true rfl rfl rfl (by decide +kernel)) (pi_tup (pe_fld (pv 0) rfl)) (blkOk_by (own := [("node", 6)]) (N := ["self", "starts", "inner", "found", "start", "number", "node"]) (sc := defScope sGBelow) (by decide +kernel)) (fun _ _ _ _ _ => pg_name (i := 6) scGBelow.nd rfl (Or.inl rfl)) (fun _ _ _ _ _ => pts_nil) (fun _ _ _ _ _ => by exact (pe_call GK hr (by rfl) N.gKd N.FKd.kp N.bKd .nil pass0 (pa_cons (pv 6) pa_nil))))
        (pss_cons (ps_set (i := 3) scGBelow.nd rfl (Or.inl rfl) pe_dnewK)
        (pss_cons (ps_for PassesOwn.never rfl (pi_or (pi_list (pv 1)) (pi_tup (pv 1))) (pg_name (i := 4) scGBelow.nd rfl (Or.inl rfl))
          (pss_one (ps_for PassesOwn.never rfl (pi_list (pe_call GW hr (by rfl) Dg.gWa Dg.FWa.kp Dg.bWa .nil pass0 (pa_cons (pv 2) (pa_cons (pv 4) pa_nil)))) (pg_name (i := 5) scGBelow.nd rfl (Or.inl rfl))
          (pss_one (ps_asg pe_bl (pg_sub (pv 3) (pv 5) (set_dict hu)))))))
        (pss_one (ps_ret (pe_callTy (call_list_dK rfl) (by rfl) B.list (by decide +kernel) (pa_cons (pv 3) pa_nil))))))), ?_⟩
    --EB
    obtain ⟨b0, us, rfl, hsu, hxu, _⟩ := id rv.tupd'
    have lu : us.length = ns.length := by rw [hxu.length, List.length_map]
    refine ⟨_, rfl, x, C, dx, _, _, rfl, hx, L.cl, L.nN, gr_N, b0, rfl, ⟨_, hsu⟩, fun D0 nD => ?_⟩
    refine lcJT (Pd := fun i d => ∃ g, ns[i]? = some g ∧ d = .tup (iD (gk g))) jr_same (Same.refl _) (by omega) hsu nD ?_ ?_
    · intro i x H2 Q2 Z2 hx s2 hQ
      obtain ⟨d, hd, rx⟩ := hxu.get hx
      rw [List.getElem?_map] at hd
      obtain ⟨g, hgi, rfl⟩ := Option.map_eq_some_iff.mp hd
      refine ⟨rfl, ?_⟩
      exact iteT (B := Z2 H2) ⟨_, rfl, x, g, rfl, Rdd.ex (Ex.same s2) _ rx, (gk_rng (hg g (List.mem_of_getElem? hgi))).1, fun r0 H3 s3 hr0 => hQ r0 H3 _ s3 hr0 ⟨g, hgi, rfl⟩⟩
    · intro H2 ys ds s2 hD ry ld pd
      have ed : ds = (ns.map gk).map fun c => .tup (iD c) := by
        apply List.ext_getElem?
        intro i
        rw [List.getElem?_map, List.getElem?_map]
        by_cases hi : i < ds.length
        · obtain ⟨g, h1, h2⟩ := pd i _ (List.getElem?_eq_getElem hi)
          rw [List.getElem?_eq_getElem hi, h1, h2]
          rfl
        · rw [List.getElem?_eq_none (by omega), List.getElem?_eq_none (by omega)]
          rfl
      rw [ed] at ry
      refine fun mt nm => ?_
      have nm0 := none_of s2 nm
      have s3 : Same H2 (upd H2 mt (.dK [])) := Same.new nm
      have hm3 : (upd H2 mt (.dK [])) mt = some (.dK (kvI [])) := upd_same
      generalize upd H2 mt (.dK []) = H3 at s3 hm3 ⊢
      have hs2 : H2 a = some (.lst (iL ss)) ∨ SqT K H2 a (iL ss) := hs.imp (fun z => s2 _ _ z) fun z => (Ex.same s2).tup z
      -- the loop over the starts
      refine tFor_seq (K := K) (H0 := H2) (a := a) (xs := iL ss) (fun Q z => ⟨_, rfl, z⟩) hs2 (fun i σ G => ∃ (m : List Nat) (g4 g5 : Option V), σ = [some (.ref x), some (.ref a), some (.ref D0), some (.ref mt), g4, g5, none] ∧ Same H2 G ∧ G mt = some (.dK (kvI m)) ∧ Bel (kd ns) ns.length (ss.take i) m) ?_ ?_ ?_ ?_
      · exact ⟨[], none, none, rfl, s3, hm3, .nil, fun i => by simp, fun i hi => by cases hi⟩
      · rintro i σ G ⟨m, g4, g5, _, s, _⟩
        exact s
      · rintro i y σ G hy ⟨m, g4, g5, rfl, s, hm, bl⟩
        unfold iL at hy
        rw [List.getElem?_map] at hy
        obtain ⟨r, hr0, rfl⟩ := Option.map_eq_some_iff.mp hy
        have hrl := hss r (List.mem_of_getElem? hr0)
        refine ⟨_, rfl, _, rfl, D0, ys, ns.map gk, r, rfl, SqL.of (s _ _ hD), RddAll.ex (Ex.same s) _ ry, ksOk_of hg, by rw [List.length_map]; exact hrl, by rw [List.length_map]; exact hn, fun o p G1 fw nd lt s4 np hp => ?_⟩
        rw [ksF_kd] at fw
        have lt' : ∀ i ∈ o, i < ns.length := fun i hi => by
          have := lt i hi
          rwa [List.length_map] at this
        have pm : mt ≠ p := ne_of_none hm np
        refine ⟨p, rfl, ⟨_, SqL.of hp⟩, ?_⟩
        refine for_list (xs := iL o) (fun t σ G2 => ∃ (m2 : List Nat) (g5 : Option V), σ = [some (.ref x), some (.ref a), some (.ref D0), some (.ref mt), some (.int (r : Nat)), g5, none] ∧ Same H2 G2 ∧ G2 mt = some (.dK (kvI m2)) ∧ G2 p = some (.lst (iL o)) ∧ m2.Nodup ∧ ∀ i, i ∈ m2 ↔ i ∈ m ∨ i ∈ o.take t) ?_ ?_ ?_ ?_
        · exact ⟨m, g5, rfl, s.trans s4, s4 _ _ hm, hp, bl.nd, fun i => by simp⟩
        · rintro t σ G2 _ ⟨m2, g5, _, _, _, h, _⟩
          exact SqL.of h
        · rintro t y σ G2 hy ⟨m2, g5, rfl, s5, hm5, hp5, nd5, mem5⟩
          unfold iL at hy
          rw [List.getElem?_map] at hy
          obtain ⟨u, hu0, rfl⟩ := Option.map_eq_some_iff.mp hy
          have lm : m2.length ≤ ns.length := nd_len' nd5 fun i hi => ((mem5 i).mp hi).elim (bl.lt i) fun z => lt' i (List.mem_of_mem_take z)
          refine ⟨_, rfl, _, rfl, mt, _, rfl, DPut.k (k := Sum.inl ((u : Nat) : Int)) hm5 (by rw [kvI_len]; omega), ?_⟩
          rw [kvI_ins]
          refine ⟨insN m2 u, _, rfl, jr_same.put s5 nm, upd_same, by rw [upd_ne (Ne.symm pm)]; exact hp5, insN_nodup nd5, fun i => ?_⟩
          rw [insN_mem, mem5, mem_take1 hu0, or_assoc]
        · rintro σ G2 ⟨m2, g5, rfl, s5, hm5, _, nd5, mem5⟩
          have mem6 : ∀ i, i ∈ m2 ↔ i ∈ m ∨ i ∈ o := fun i => by
            have := mem5 i
            rwa [show (iL o).length = o.length from List.length_map .., List.take_length] at this
          refine ⟨m2, _, _, rfl, s5, hm5, nd5, fun i => ?_, fun i hi => ((mem6 i).mp hi).elim (bl.lt i) (lt' i)⟩
          rw [mem6, bl.mem, fw_rc fw]
          constructor
          · rintro (⟨s, h1, h2⟩ | h)
            · exact ⟨s, (mem_take1 hr0).mpr (.inl h1), h2⟩
            · exact ⟨r, (mem_take1 hr0).mpr (.inr rfl), h⟩
          · rintro ⟨s, h1, h2⟩
            rcases (mem_take1 hr0).mp h1 with h1 | rfl
            · exact .inl ⟨s, h1, h2⟩
            · exact .inr h2
      · rintro σ G ⟨m, g4, g5, rfl, s, hm, bl⟩
        rw [show (iL ss).length = ss.length from List.length_map .., List.take_length] at bl
        refine ⟨_, rfl, mt, _, rfl, hm, fun p np => ?_⟩
        refine q m p _ bl ((s2.trans s).trans (Same.new np)) (none_of (s2.trans s) np) ?_
        have e : (kvI m).map (fun kv => kV kv.1) = iL m := by
          unfold kvI iL
          rw [List.map_map]
          rfl
        rw [e]
        exact upd_same
end
end Sl

set_option Elab.async false
set_option linter.all false
set_option maxRecDepth 100000
set_option maxHeartbeats 400000
/-! ## Needs by rounds -/
namespace Sl
open PySem PySem.Spec PyProof.Rows L2
def rowAt (X : List (List Nat)) (i : Nat) : List Nat := X.getD i []
theorem rowAt_get {X : List (List Nat)} {i : Nat} {r : List Nat} (h : X[i]? = some r) : rowAt X i = r := by
  unfold rowAt
  rw [List.getD_eq_getElem?_getD, h]
  rfl
theorem rowAt_set {X : List (List Nat)} {i : Nat} {r : List Nat} (h : i < X.length) (j : Nat) : rowAt (X.set i r) j = if i = j then r else rowAt X j := by
  unfold rowAt
  rw [List.getD_eq_getElem?_getD, List.getD_eq_getElem?_getD]
  by_cases e : i = j
  · subst e
    rw [List.getElem?_set_self h, if_pos rfl]
    rfl
  · rw [List.getElem?_set_ne e, if_neg e]
/-- f is in the row that node i gets from the rows X -/
def Fm (ns : List GN) (X : List (List Nat)) (i f : Nat) : Prop := match nAt ns i with
  | .V g => f = g
  | .F c => f ∈ rowAt X c ∧ f ≠ i
  | .W _ cs => ∃ c ∈ cs, f ∈ rowAt X c
theorem Fm.mono {ns : List GN} {X Y : List (List Nat)} (h : ∀ j f, f ∈ rowAt X j → f ∈ rowAt Y j) {i f : Nat} (x : Fm ns X i f) : Fm ns Y i f := by
  unfold Fm at x ⊢
  split at x
  · exact x
  · exact ⟨h _ _ x.1, x.2⟩
  · obtain ⟨c, hc, hf⟩ := x
    exact ⟨c, hc, h _ _ hf⟩
/-- a round that began with X0 has come to X, i nodes are through -/
structure Swp (ns : List GN) (X0 X : List (List Nat)) (i : Nat) : Prop where
  len : X.length = ns.length
  asc : ∀ j, (rowAt X j).Pairwise (· < ·)
  snd : ∀ j f, j < ns.length → f ∈ rowAt X j → ∃ v, ns[v]? = some (.V f) ∧ Nd ns f v j
  mono : ∀ j f, j < ns.length → f ∈ rowAt X j → Fm ns X j f
  sub : ∀ j f, f ∈ rowAt X0 j → f ∈ rowAt X j
  done : ∀ j, j < i → ∀ f, Fm ns X0 j f → f ∈ rowAt X j
theorem rowAt_over {X : List (List Nat)} {j : Nat} (h : X.length ≤ j) : rowAt X j = [] := by
  unfold rowAt
  rw [List.getD_eq_getElem?_getD, List.getElem?_eq_none h]
  rfl
/-- owners are functions -/
def Own (ns : List GN) : Prop := ∀ v f : Nat, ns[v]? = some (.V f) → ∃ c, ns[f]? = some (.F c)
theorem Swp.start {ns : List GN} {X0 X : List (List Nat)} {i : Nat} (h : Swp ns X0 X i) : Swp ns X X 0 := ⟨h.len, h.asc, h.snd, h.mono, fun _ _ x => x, fun j hj => by omega⟩
theorem swp_nil (ns : List GN) : Swp ns (ns.map fun _ => []) (ns.map fun _ => []) 0 := by
  have e : ∀ j, rowAt (ns.map fun _ => ([] : List Nat)) j = [] := fun j => by
    unfold rowAt
    rw [List.getD_eq_getElem?_getD, List.getElem?_map]
    cases ns[j]? <;> rfl
  exact ⟨List.length_map .., (fun j => by rw [e]; exact .nil), (fun j f _ h => by rw [e] at h; cases h), (fun j f _ h => by rw [e] at h; cases h), (fun j f h => h), (fun j hj => by omega)⟩
theorem Swp.step {ns : List GN} {X0 X : List (List Nat)} {i : Nat} {r : List Nat} (h : Swp ns X0 X i) (ow : Own ns) (hi : i < ns.length) (ra : r.Pairwise (· < ·)) (rm : ∀ f, f ∈ r ↔ Fm ns X i f) : Swp ns X0 (X.set i r) (i + 1) := by
  have hil : i < X.length := by rw [h.len]; exact hi
  have up : ∀ j f, f ∈ rowAt X j → f ∈ rowAt (X.set i r) j := fun j f hf => by
    rw [rowAt_set hil]
    by_cases e : i = j
    · subst e
      rw [if_pos rfl]
      exact (rm f).mpr (h.mono i f hi hf)
    · rw [if_neg e]
      exact hf
  refine ⟨by rw [List.length_set]; exact h.len, fun j => ?_, fun j f hj hf => ?_, fun j f hj hf => ?_, fun j f hf => up j f (h.sub j f hf), fun j hj f hf => ?_⟩
  · rw [rowAt_set hil]
    split
    · exact ra
    · exact h.asc j
  · rw [rowAt_set hil] at hf
    by_cases e : i = j
    · subst e
      rw [if_pos rfl] at hf
      have fm := (rm f).mp hf
      have hat := nAt_get hi
      unfold Fm at fm
      split at fm
      · rename_i g eg
        subst fm
        rw [eg] at hat
        exact ⟨i, hat, .var⟩
      · rename_i c ec
        rw [ec] at hat
        have hc : c < ns.length := by
          by_cases z : c < ns.length
          · exact z
          · rw [rowAt_over (by rw [h.len]; omega)] at fm
            cases fm.1
        obtain ⟨v, hv, hn⟩ := h.snd c f hc fm.1
        exact ⟨v, hv, .up hn (by rw [kd_at hat]; exact List.mem_singleton.mpr rfl) fun z => fm.2 z.symm⟩
      · rename_i x cs ec
        rw [ec] at hat
        obtain ⟨c, hcs, hfc⟩ := fm
        have hc : c < ns.length := by
          by_cases z : c < ns.length
          · exact z
          · rw [rowAt_over (by rw [h.len]; omega)] at hfc
            cases hfc
        obtain ⟨v, hv, hn⟩ := h.snd c f hc hfc
        refine ⟨v, hv, .up hn (by rw [kd_at hat]; exact hcs) fun z => ?_⟩
        obtain ⟨b, hb⟩ := ow v f hv
        rw [← z, hat] at hb
        cases hb
    · rw [if_neg e] at hf
      exact h.snd j f hj hf
  · rw [rowAt_set hil] at hf
    by_cases e : i = j
    · subst e
      rw [if_pos rfl] at hf
      exact ((rm f).mp hf).mono up
    · rw [if_neg e] at hf
      exact (h.mono j f hj hf).mono up
  · by_cases e : j = i
    · subst e
      rw [rowAt_set hil, if_pos rfl]
      exact (rm f).mpr (hf.mono h.sub)
    · exact up j f (h.done j (by omega) f hf)
/-- a round that changes nothing: the rows are those of the graph -/
theorem Swp.fin {ns : List GN} {X : List (List Nat)} (h : Swp ns X X ns.length) (i : Nat) (hi : i < ns.length) : Row ns i (rowAt X i) := by
  have full : ∀ f v, ns[v]? = some (.V f) → ∀ {j}, j < ns.length → Nd ns f v j → f ∈ rowAt X j := fun f v hv {j} hj hn => by
    induction hn with
    | var =>
      refine h.done v hj f ?_
      unfold Fm
      rw [Option.some.inj ((nAt_get hj).symm.trans hv)]
    | @up j c _ hk hne ih =>
      have hat := nAt_get hj
      rw [kd_at hat] at hk
      refine h.done j hj f ?_
      unfold Fm
      have hc : c < ns.length := by
        by_cases z : c < ns.length
        · exact z
        · rename_i hn2
          have : ∀ {k}, Nd ns f v k → k < ns.length := fun hn3 => by
            cases hn3 with
            | var => exact (List.getElem?_eq_some_iff.mp hv).1
            | up _ h3 _ =>
              unfold kd at h3
              split at h3
              · rename_i e
                exact (List.getElem?_eq_some_iff.mp e).1
              · cases h3
          exact this hn2
      cases hg : nAt ns j with
      | V g => rw [hg] at hk; cases hk
      | F c2 =>
        rw [hg] at hk
        rw [List.mem_singleton.mp hk] at ih hc
        exact ⟨ih hc, fun z => hne z.symm⟩
      | W x cs =>
        rw [hg] at hk
        exact ⟨c, hk, ih hc⟩
  exact ⟨h.asc i, fun f => ⟨fun hf => h.snd i f hi hf, fun ⟨v, hv, hn⟩ => full f v hv hi hn⟩⟩
/-! ### how long it takes -/
def sumL (X : List (List Nat)) : Nat := (X.map List.length).sum
theorem asc_sub_len : ∀ {a b : List Nat}, a.Pairwise (· < ·) → b.Pairwise (· < ·) → (∀ x ∈ a, x ∈ b) → a.length ≤ b.length ∧ (a.length = b.length → a = b)
  | [], [], _, _, _ => ⟨Nat.le_refl _, fun _ => rfl⟩
  | [], y :: b, _, _, _ => ⟨Nat.zero_le _, fun h => by cases h⟩
  | x :: a, [], _, _, h => by
    have := h x List.mem_cons_self
    cases this
  | x :: a, y :: b, ha, hb, h => by
    have ⟨a1, a2⟩ := List.pairwise_cons.mp ha
    have ⟨b1, b2⟩ := List.pairwise_cons.mp hb
    rcases Nat.lt_trichotomy x y with l | e | l
    · rcases List.mem_cons.mp (h x List.mem_cons_self) with e | m
      · omega
      · have := b1 x m
        omega
    · subst e
      have ⟨h1, h2⟩ := asc_sub_len a2 b2 fun z hz => by
        rcases List.mem_cons.mp (h z (List.mem_cons_of_mem _ hz)) with e | m
        · have := a1 z hz
          omega
        · exact m
      exact ⟨by simp only [List.length_cons]; omega, fun e => by rw [h2 (by simp only [List.length_cons] at e; omega)]⟩
    · have ⟨h1, h2⟩ := asc_sub_len (a := x :: a) (b := b) ha b2 fun z hz => by
        rcases List.mem_cons.mp (h z hz) with e | m
        · rcases List.mem_cons.mp hz with e2 | m2
          · omega
          · have := a1 z m2
            omega
        · exact m
      exact ⟨by rw [List.length_cons (as := b)]; omega, fun e => by rw [List.length_cons (as := b)] at e; omega⟩
theorem sum_grow : ∀ {X Y : List (List Nat)}, X.length = Y.length → (∀ j, (rowAt X j).Pairwise (· < ·)) → (∀ j, (rowAt Y j).Pairwise (· < ·)) → (∀ j f, f ∈ rowAt X j → f ∈ rowAt Y j) → sumL X ≤ sumL Y ∧ (sumL X = sumL Y → X = Y)
  | [], [], _, _, _, _ => ⟨Nat.le_refl _, fun _ => rfl⟩
  | [], _ :: _, h, _, _, _ => by cases h
  | _ :: _, [], h, _, _, _ => by cases h
  | a :: X, b :: Y, h, hx, hy, s => by
    have ⟨h1, h2⟩ := asc_sub_len (hx 0) (hy 0) (s 0)
    have ⟨h3, h4⟩ := sum_grow (X := X) (Y := Y) (by simpa using h) (fun j => hx (j + 1)) (fun j => hy (j + 1)) fun j => s (j + 1)
    have h1' : a.length ≤ b.length := h1
    have h2' : a.length = b.length → a = b := h2
    unfold sumL at h3 h4 ⊢
    simp only [List.map_cons, List.sum_cons]
    refine ⟨by omega, fun e => ?_⟩
    rw [h2' (by omega), h4 (by omega)]
theorem sum_le : ∀ {X : List (List Nat)} {n : Nat}, (∀ r ∈ X, r.length ≤ n) → sumL X ≤ X.length * n
  | [], _, _ => by simp [sumL]
  | a :: X, n, h => by
    have h1 := h a List.mem_cons_self
    have h2 := sum_le (X := X) (n := n) fun r hr => h r (List.mem_cons_of_mem _ hr)
    unfold sumL at h2 ⊢
    simp only [List.map_cons, List.sum_cons, List.length_cons]
    rw [Nat.succ_mul]
    omega
end Sl

set_option Elab.async false
set_option linter.all false
set_option maxRecDepth 100000
set_option maxHeartbeats 400000
/-! ## Lists of numbers as data -/
namespace Sl
open PySem PySem.Spec PyProof.Rows L2
abbrev rListOf (K : PySem.W.Frag) : List V → Hp → VK → Prop := fun xs H Q => ∃ p ys, xs = [.ref p] ∧ (SqL K H p ys ∨ SqT K H p ys) ∧ ∀ l, H l = none → Q (.ref l) (upd H l (.lst ys))
/-- a list of lists of numbers: the outer one at F, the inner ones never at F -/
def LLAt (H : Hp) (F : Addr) (X : List (List Nat)) : Prop := ∃ as : List Addr, H F = some (.lst (as.map V.ref)) ∧ as.length = X.length ∧ ∀ (i : Nat) (a : Addr), as[i]? = some a → H a = some (.lst (iL (rowAt X i))) ∧ a ≠ F
theorem LLAt.same {H H' : Hp} {F : Addr} {X : List (List Nat)} (h : LLAt H F X) (s : Same H H') : LLAt H' F X := by
  obtain ⟨as, h1, h2, h3⟩ := h
  exact ⟨as, s _ _ h1, h2, fun i a e => ⟨s _ _ (h3 i a e).1, (h3 i a e).2⟩⟩
theorem LLAt.off {H H' : Hp} {F b : Addr} {X : List (List Nat)} (h : LLAt H F X) (o : Off b H H') (n : H b = none) : LLAt H' F X := by
  obtain ⟨as, h1, h2, h3⟩ := h
  exact ⟨as, o _ _ (ne_of_none h1 n) h1, h2, fun i a e => ⟨o _ _ (ne_of_none (h3 i a e).1 n) (h3 i a e).1, (h3 i a e).2⟩⟩
/-- such a list at b that has nothing at F stays when what is at F changes -/
def LLFar (H : Hp) (F b : Addr) (X : List (List Nat)) : Prop := b ≠ F ∧ ∃ as : List Addr, H b = some (.lst (as.map V.ref)) ∧ as.length = X.length ∧ ∀ (i : Nat) (a : Addr), as[i]? = some a → H a = some (.lst (iL (rowAt X i))) ∧ a ≠ F
theorem LLFar.off {H H' : Hp} {F b : Addr} {X : List (List Nat)} (h : LLFar H F b X) (o : Off F H H') : LLFar H' F b X := by
  obtain ⟨nb, as, h1, h2, h3⟩ := h
  exact ⟨nb, as, o _ _ nb h1, h2, fun i a e => ⟨o _ _ (h3 i a e).2 (h3 i a e).1, (h3 i a e).2⟩⟩
def rowsP (X : List (List Nat)) : List PyData := X.map fun r => .list (r.map fun i => .int (i : Nat))
theorem ints_dp {K : PySem.W.Frag} {H : Hp} : ∀ l : List Nat, DpAll K H (iL l) (l.map fun i => PyData.int (i : Nat))
  | [] => .nil
  | a :: l => .cons (.int _) (ints_dp l)
theorem rows_dp {K : PySem.W.Frag} {H : Hp} {b : Addr} {X : List (List Nat)} (as : List Addr) (h1 : H b = some (.lst (as.map V.ref))) (h2 : as.length = X.length) (h3 : ∀ (i : Nat) (a : Addr), as[i]? = some a → H a = some (.lst (iL (rowAt X i)))) : Dp K H (.ref b) (.list (rowsP X)) := by
  refine .lst (SqL.of h1) ?_
  clear h1
  induction X generalizing as with
  | nil =>
    cases as with
    | nil => exact .nil
    | cons _ _ => cases h2
  | cons r X ih =>
    cases as with
    | nil => cases h2
    | cons a as => exact .cons (.lst (SqL.of (h3 0 a rfl)) (ints_dp r)) (ih as (by simpa using h2) fun i c e => h3 (i + 1) c e)
theorem eqv_ints : ∀ a b : List Nat, PyData.eqvAll (a.map fun i => PyData.int (i : Nat)) (b.map fun i => PyData.int (i : Nat)) = decide (a = b)
  | [], [] => by simp [PyData.eqvAll]
  | [], _ :: _ => by simp [PyData.eqvAll]
  | _ :: _, [] => by simp [PyData.eqvAll]
  | x :: a, y :: b => by
    rw [List.map_cons, List.map_cons, PyData.eqvAll, eqv_ints a b, PyData.eqv]
    by_cases e : x = y
    · subst e
      simp
    · have : ¬ ((x : Nat) : Int) = ((y : Nat) : Int) := fun z => e (Int.ofNat.inj z)
      simp [e, this]
theorem eqv_rows : ∀ X Y : List (List Nat), PyData.eqvAll (rowsP X) (rowsP Y) = decide (X = Y)
  | [], [] => by simp [PyData.eqvAll, rowsP]
  | [], _ :: _ => by simp [PyData.eqvAll, rowsP]
  | _ :: _, [] => by simp [PyData.eqvAll, rowsP]
  | x :: X, y :: Y => by
    have ih := eqv_rows X Y
    unfold rowsP at ih ⊢
    rw [List.map_cons, List.map_cons, PyData.eqvAll, ih, PyData.eqv, eqv_ints]
    by_cases e : x = y
    · subst e
      simp
    · simp [e]
theorem ints_lay : ∀ a : List Nat, PyData.canLayAll0 (a.map fun i => PyData.int (i : Nat)) = true ∧ PyData.depthAll (a.map fun i => PyData.int (i : Nat)) = 0
  | [] => by simp [PyData.canLayAll0, PyData.depthAll]
  | x :: a => by
    have ⟨h1, h2⟩ := ints_lay a
    rw [List.map_cons, PyData.canLayAll0, PyData.depthAll, h1, h2]
    simp [PyData.canLay0, PyData.depth]
theorem rows_lay : ∀ X : List (List Nat), PyData.canLayAll0 (rowsP X) = true ∧ PyData.depthAll (rowsP X) ≤ 1
  | [] => by simp [PyData.canLayAll0, PyData.depthAll, rowsP]
  | r :: X => by
    have ⟨h1, h2⟩ := rows_lay X
    have ⟨h3, h4⟩ := ints_lay r
    unfold rowsP at h1 h2 ⊢
    rw [List.map_cons, PyData.canLayAll0, PyData.depthAll, h1]
    simp only [PyData.canLay0, PyData.depth, h3, h4, Bool.and_true, true_and]
    omega
theorem rows_shaped (X : List (List Nat)) : SeqAt.shaped (.list (rowsP X)) = true := by
  have ⟨h1, h2⟩ := rows_lay X
  unfold SeqAt.shaped
  simp only [PyData.canLay0, PyData.depth, h1, Bool.true_and]
  exact decide_eq_true (by omega)
/-- row i is set to a new list -/
theorem LLAt.set {H : Hp} {F p : Addr} {X : List (List Nat)} {i : Nat} {r : List Nat} (h : LLAt H F X) (hp : H p = some (.lst (iL r))) (np : p ≠ F) (hi : i < X.length) : ∃ as : List Addr, H F = some (.lst (as.map V.ref)) ∧ as.length = X.length ∧ LLAt (upd H F (.lst ((as.map V.ref).set i (V.ref p)))) F (X.set i r) := by
  obtain ⟨as, h1, h2, h3⟩ := h
  refine ⟨as, h1, h2, as.set i p, by rw [List.map_set]; exact upd_same, by rw [List.length_set, List.length_set, h2], fun j a e => ?_⟩
  rw [rowAt_set hi]
  by_cases ij : i = j
  · subst ij
    rw [List.getElem?_set_self (by omega)] at e
    cases e
    rw [if_pos rfl, upd_ne np]
    exact ⟨hp, np⟩
  · rw [List.getElem?_set_ne ij] at e
    rw [if_neg ij, upd_ne (h3 j a e).2]
    exact h3 j a e
theorem inV_iL (o : Nat) (l : List Nat) : inV (.int (o : Nat)) (iL l) = decide (o ∈ l) := by
  unfold inV iL
  induction l with
  | nil => rfl
  | cons a l ih =>
    rw [List.map_cons, List.any_cons, ih]
    show ((a : Int) == (o : Int) || _) = _
    by_cases e : a = o
    · subst e
      simp
    · have h1 : ((a : Int) == (o : Int)) = false := beq_eq_false_iff_ne.mpr fun z => e (Int.ofNat.inj z)
      rw [h1, Bool.false_or]
      exact decide_eq_decide.mpr ⟨fun h => List.mem_cons_of_mem _ h, fun h => (List.mem_cons.mp h).resolve_left fun z => e z.symm⟩
theorem flat_iL (l : List Nat) : (iL l).all flatV = true := by
  unfold iL
  rw [List.all_map]
  exact List.all_eq_true.mpr fun _ _ => rfl
theorem ints_shaped (l : List Nat) : SeqAt.shaped (.list (l.map fun i => PyData.int (i : Nat))) = true := by
  have ⟨h1, h2⟩ := ints_lay l
  unfold SeqAt.shaped
  simp only [PyData.canLay0, PyData.depth, h1, h2, Bool.true_and]
  exact decide_eq_true (by omega)
theorem eqv_nil (l : List Nat) : PyData.eqv (.list (l.map fun i => PyData.int (i : Nat))) (.list []) = decide (l = []) := by
  have := eqv_ints l []
  rw [PyData.eqv]
  exact this
abbrev tupP (l : List Nat) : PyData := .tuple (l.map fun i => PyData.int (i : Nat))
theorem tup_dp {K : PySem.W.Frag} {H : Hp} {v : V} {s : List Nat} (h : Rdd K H v (.tup (iD s))) : Dp K H v (tupP s) := by
  obtain ⟨a0, xs, rfl, hs, hx, _⟩ := h.tupd'
  rw [iD_ints hx] at hs
  exact .tup hs (ints_dp s)
theorem tup_eqv (a b : List Nat) : PyData.eqv (tupP a) (tupP b) = decide (a = b) := by
  rw [PyData.eqv]
  exact eqv_ints a b
theorem tup_shaped (l : List Nat) : SeqAt.shaped (tupP l) = true := by
  have ⟨h1, h2⟩ := ints_lay l
  unfold SeqAt.shaped
  simp only [PyData.canLay0, PyData.depth, h1, h2, Bool.true_and]
  exact decide_eq_true (by omega)
end Sl

set_option Elab.async false
set_option linter.all false
set_option maxRecDepth 100000
set_option maxHeartbeats 400000
/-! ## What is reached; methods that others call -/
namespace Sl
open PySem PySem.Spec PyProof.Rows L2
open Classical in
/-- the numbers below n that are reached from a, ascending -/
noncomputable def rch (k : Nat → List Nat) (n a : Nat) : List Nat := (List.range n).filter fun j => decide (Rc k a j)
open Classical in
theorem mem_rch {k : Nat → List Nat} {n a j : Nat} : j ∈ rch k n a ↔ j < n ∧ Rc k a j := by
  unfold rch
  rw [List.mem_filter, List.mem_range, decide_eq_true_iff]
open Classical in
theorem rch_len (k : Nat → List Nat) (n a : Nat) : (rch k n a).length ≤ n := by
  unfold rch
  exact Nat.le_trans (List.length_filter_le _ _) (by rw [List.length_range]; exact Nat.le_refl _)
open Classical in
/-- a sorted list of all that is reached -/
theorem rch_srt {k : Nat → List Nat} {n a : Nat} {m : List Nat} (nd : m.Nodup) (lt : ∀ j ∈ m, j < n) (mem : ∀ j, j ∈ m ↔ Rc k a j) {ns' : List Int} (p : ns'.Perm (m.map fun i => ((i : Nat) : Int))) (s : ns'.Pairwise (· ≤ ·)) : ns'.map V.int = iL (rch k n a) := by
  have e : ns' = (rch k n a).map fun i => ((i : Nat) : Int) := by
    refine List.Perm.eq_of_pairwise (le := (· ≤ ·)) (fun a b _ _ h1 h2 => Int.le_antisymm h1 h2) s ?_ (p.trans (List.Perm.map _ ?_))
    · refine List.pairwise_map.mpr (List.Pairwise.imp (R := (· < ·)) (fun {a b} h => Int.ofNat_le.mpr (Nat.le_of_lt h)) ?_)
      exact List.Pairwise.filter _ List.pairwise_lt_range
    · refine (List.perm_ext_iff_of_nodup nd (List.Pairwise.filter _ List.nodup_range)).mpr fun j => ?_
      rw [mem]
      exact ⟨fun h => mem_rch.mpr ⟨lt j ((mem j).mpr h), h⟩, fun h => (mem_rch.mp h).2⟩
  rw [e, List.map_map]
  rfl
theorem flat_iLk (l : List Nat) : (iL l).all flatV = true := List.all_eq_true.mpr fun v hv => by
  obtain ⟨i, _, rfl⟩ := List.mem_map.mp hv
  rfl
/-- is on a ring -/
def Rng1 (k : Nat → List Nat) (a : Nat) : Prop := ∃ s ∈ k a, Rc k s a
section
variable {P : Program} {w : World} {K : PySem.W.Frag} {mg : Str → Option Value} {base : Heap} {C : Addr} {fWh fBe fNm fKd fWk fRw fPo fNd fAn : Addr} {dWh dBe dNm dKd dWk dRw dPo dNd dAn : FuncData}
variable {fPa fIn fNe fSc fWa fPt fNu : Addr} {dPa dIn dNe dSc dWa dPt dNu : FuncData} {fC fCb fB : Addr} {dC dCb dB : FuncData}
/-- the methods that the others call -/
structure Mc (K : PySem.W.Frag) (mg : Str → Option Value) (C fC fCb fB : Addr) (dC dCb dB : FuncData) : Prop where
  Ck : Me K C "check" "Graph.check" sGCheck ["self", "node"] fC dC
  FCb : Fun K "check_below" "check_below" sCheckB fCb dCb
  bCb : Binds K dCb ["value", "limit"] []
  gCb : mg "check_below" = some (.ref fCb)
  Be : Me K C "below" "Graph.below" sGBelow ["self", "starts"] fB dB
end
end Sl

set_option Elab.async false
set_option linter.all false
set_option maxRecDepth 100000
set_option maxHeartbeats 400000
/-! ## Graph.nodes -/
namespace Sl
open PySem PySem.Spec PyProof.Rows L2
abbrev sGNodes : Stmt := inClass (topT 31) 2
theorem scGNodes : FnScope ["self"] ["self"] (defScope sGNodes) := ⟨rfl, rfl, rfl, by decide +kernel, rfl, by decide +kernel, by decide +kernel⟩
section
variable {P : Program} {w : World} {K : PySem.W.Frag} {mg : Str → Option Value} {base : Heap} {C : Addr} {fWh fBe fNm fKd fWk fRw fPo fNd fAn : Addr} {dWh dBe dNm dKd dWk dRw dPo dNd dAn : FuncData}
variable {fPa fIn fNe fSc fWa fPt fNu : Addr} {dPa dIn dNe dSc dWa dPt dNu : FuncData} {fC fCb fB : Addr} {dC dCb dB : FuncData}
def spGNodes (K : PySem.W.Frag) (C : Addr) : Sp := fun vs H Q _ => ∃ (g : Addr) (ns : List GN) (R S : List (List Nat)), vs = [.ref g] ∧ GrAt K C H g ns R S ∧ ∀ v, Rdd K H v (.tup (ns.map ndD)) → Q v H
theorem ok_gNodes {f : Addr} {fd : FuncData} (F : Fun K "nodes" "Graph.nodes" sGNodes f fd) (L : Gr K mg C) : FnOk P w K mg base CX0 1 f fd ["self"] (spGNodes K C) := by
  refine F.ok scGNodes (fun vs H Q E h => ?_) (fun cdv A outer s H vs Q E hr h => ?_)
  · obtain ⟨g, ns, R, S, rfl, _⟩ := h
    rfl
  · obtain ⟨g, ns, R, S, rfl, gr, q⟩ := h
    --DN
    refine ⟨_, (pss_one (ps_ret (pe_fld (pv 0) rfl))), ?_⟩
    --EN
    obtain ⟨dx, pR, pS, vN, hx, rv, _⟩ := gr.ex
    exact ⟨_, rfl, g, C, dx, _, _, rfl, hx, L.cl, L.nN, gr_N, q vN rv⟩
end
end Sl

set_option Elab.async false
set_option linter.all false
set_option maxRecDepth 100000
set_option maxHeartbeats 400000
/-! ## Graph.functions -/
namespace Sl
open PySem PySem.Spec PyProof.Rows L2
abbrev sGFuns : Stmt := inClass (topT 31) 3
theorem scGFuns : FnScope ["self", "number", "node"] ["self"] (defScope sGFuns) := ⟨rfl, rfl, rfl, by decide +kernel, rfl, by decide +kernel, by decide +kernel⟩
section
variable {P : Program} {w : World} {K : PySem.W.Frag} {mg : Str → Option Value} {base : Heap} {C : Addr} {fWh fBe fNm fKd fWk fRw fPo fNd fAn : Addr} {dWh dBe dNm dKd dWk dRw dPo dNd dAn : FuncData}
variable {fPa fIn fNe fSc fWa fPt fNu : Addr} {dPa dIn dNe dSc dWa dPt dNu : FuncData} {fC fCb fB : Addr} {dC dCb dB : FuncData}
/-- the functions -/
def fnsG (ns : List GN) : List Nat := (List.range ns.length).filter fun i => (nAt ns i).isF
def spGFuns (K : PySem.W.Frag) (C : Addr) : Sp := fun vs H Q _ => ∃ (g : Addr) (ns : List GN) (R S : List (List Nat)), vs = [.ref g] ∧ GrAt K C H g ns R S ∧ ns.length ≤ 4000 ∧ ∀ p H', Same H H' → H p = none → H' p = some (.tup (iL (fnsG ns))) → Q (.ref p) H'
theorem ok_gFuns (B : Bt mg) {f : Addr} {fd : FuncData} (F : Fun K "functions" "Graph.functions" sGFuns f fd) (L : Gr K mg C) : FnOk P w K mg base CX0 1 f fd ["self"] (spGFuns K C) := by
  refine F.ok scGFuns (fun vs H Q E h => ?_) (fun cdv A outer s H vs Q E hr h => ?_)
  · obtain ⟨g, ns, R, S, rfl, _⟩ := h
    rfl
  · obtain ⟨g, ns, R, S, rfl, gr, hn, q⟩ := h
    have sl := sizeLine_eq
    --DF
    refine ⟨_, (pss_one (ps_ret (pe_callTy call_tuple_of (by rfl) B.tuple (by decide +kernel) (pa_cons (pe_lc (own := [("number", 1), ("node", 2)]) (g := gTup K 2 (gCons (gName 1) (gCons (gName 2) gNil))) (tt := tTest (tOp rEq (tOp (rIxT K) (tVar 2) (tC (.int 0))) (tC (.str "fun")))) (te := tVar 1) rfl scGFuns.nd (pi_enumT (by rfl) B.enum (pa_cons (pe_fld (pv 0) rfl) pa_nil)) (blkOk_by (own := [("number", 1), ("node", 2)]) (N := ["self", "number", "node"]) (sc := defScope sGFuns) (by decide +kernel)) (fun _ _ _ _ _ => (pg_tup rfl (pgs_cons (pg_name (i := 1) scGFuns.nd rfl (Or.inl rfl)) (pgs_cons (pg_name (i := 2) scGFuns.nd rfl (Or.inl rfl)) pgs_nil)))) (fun _ _ _ _ _ => pts_one (by exact (pt_cmpR op_eq (pe_ix ix_tup (pv 2) pe_int (fun _ _ => rfl)) pe_str (nomark _)))) (fun _ _ _ _ _ => by exact (pv 1))) pa_nil)))), ?_⟩
    --EF
    obtain ⟨dx, pR, pS, vN, hx, rv, _⟩ := gr.ex
    obtain ⟨b0, us, rfl, hsu, hxu, _⟩ := id rv.tupd'
    have lu : us.length = ns.length := by rw [hxu.length, List.length_map]
    refine ⟨_, rfl, g, C, dx, _, _, rfl, hx, L.cl, L.nN, gr_N, b0, us, rfl, hsu, fun D0 nD => ?_⟩
    refine lcET (K := K) (xs := us) (fun i G => Same H G ∧ G D0 = some (.lst (iL ((List.range i).filter fun i => (nAt ns i).isF)))) ?_ ?_ ?_ ?_ ?_
    · exact ⟨jr_same.put (Same.refl _) nD, upd_same⟩
    · rintro i G ⟨sG, _⟩
      exact (Ex.same sG).tup hsu
    · rintro i G T y ⟨sG, h1⟩ nT
      have sT := Same.new (o := .tup [V.int (i : Nat), y]) nT
      exact ⟨sG.trans sT, sT _ _ h1⟩
    · rintro i y T G hy ⟨sG, h1⟩ hT
      obtain ⟨d, hd, ry⟩ := hxu.get hy
      rw [List.getElem?_map] at hd
      obtain ⟨g, hgi, rfl⟩ := Option.map_eq_some_iff.mp hd
      have hi := (List.getElem?_eq_some_iff.mp hgi).1
      have eg : nAt ns i = g := Option.some.inj ((nAt_get hi).symm.trans hgi)
      have ryG := Rdd.ex (Ex.same sG) _ ry
      have lf : ((List.range i).filter fun i => (nAt ns i).isF).length ≤ i := by
        have := List.length_filter_le (fun i => (nAt ns i).isF) (List.range i)
        rwa [List.length_range] at this
      have skip : g.isF = false → ((List.range (i + 1)).filter fun i => (nAt ns i).isF) = (List.range i).filter fun i => (nAt ns i).isF := fun e => by
        rw [List.range_succ, List.filter_append, List.filter_cons_of_neg (by rw [eg, e]; exact Bool.false_ne_true)]
        simp
      refine ⟨T, _, rfl, SqT.of hT, rfl, _, _, rfl, _, _, rfl, rfl, rfl, ?_⟩
      cases g with
      | W z cs =>
        obtain ⟨c0, zs, rfl, hc, hz, _⟩ := ryG.tupd'
        obtain ⟨x1, x2, x3, rfl, r1, r2, r3⟩ := hz.trip
        cases r1
        refine ⟨_, rfl, c0, _, (0 : Int), _, rfl, rfl, hc, atI_nat (j := 0) rfl, rfl, _, rfl, ?_⟩
        rw [str_dec, decide_eq_false (by decide +kernel)]
        refine iteF ⟨sG, ?_⟩
        rw [skip rfl]
        exact h1
      | F c =>
        obtain ⟨c0, zs, rfl, hc, hz, _⟩ := ryG.tupd'
        obtain ⟨x1, x2, rfl, r1, r2⟩ := hz.pair
        cases r1
        refine ⟨_, rfl, c0, _, (0 : Int), _, rfl, rfl, hc, atI_nat (j := 0) rfl, rfl, _, rfl, ?_⟩
        rw [str_dec, decide_eq_true rfl]
        refine iteT ⟨_, rfl, _, h1, by unfold iL; rw [List.length_map]; omega, jr_same.put sG nD, ?_⟩
        rw [List.range_succ, List.filter_append, List.filter_cons_of_pos (by rw [eg]; rfl)]
        unfold iL
        rw [List.map_append]
        exact upd_same
      | V f2 =>
        obtain ⟨c0, zs, rfl, hc, hz, _⟩ := ryG.tupd'
        obtain ⟨x1, x2, rfl, r1, r2⟩ := hz.pair
        cases r1
        refine ⟨_, rfl, c0, _, (0 : Int), _, rfl, rfl, hc, atI_nat (j := 0) rfl, rfl, _, rfl, ?_⟩
        rw [str_dec, decide_eq_false (by decide +kernel)]
        refine iteF ⟨sG, ?_⟩
        rw [skip rfl]
        exact h1
    rintro G0 ⟨s0, hO⟩
    rw [lu] at hO
    have hO : G0 D0 = some (.lst (iL (fnsG ns))) := hO
    exact ⟨D0, _, rfl, .inl ⟨SqL.of hO, fun l nl => q l _ (s0.trans (Same.new nl)) (none_of s0 nl) upd_same⟩⟩
end
end Sl

set_option Elab.async false
set_option linter.all false
set_option maxRecDepth 100000
set_option maxHeartbeats 400000
/-! ## len(graph) -/
namespace Sl
open PySem PySem.Spec PyProof.Rows L2
abbrev sGLen : Stmt := inClass (topT 31) 15
theorem scGLen : FnScope ["self"] ["self"] (defScope sGLen) := ⟨rfl, rfl, rfl, by decide +kernel, rfl, by decide +kernel, by decide +kernel⟩
section
variable {P : Program} {w : World} {K : PySem.W.Frag} {mg : Str → Option Value} {base : Heap} {C : Addr} {fWh fBe fNm fKd fWk fRw fPo fNd fAn : Addr} {dWh dBe dNm dKd dWk dRw dPo dNd dAn : FuncData}
variable {fPa fIn fNe fSc fWa fPt fNu : Addr} {dPa dIn dNe dSc dWa dPt dNu : FuncData} {fC fCb fB : Addr} {dC dCb dB : FuncData}
def spGLen (K : PySem.W.Frag) (C : Addr) : Sp := fun vs H Q _ => ∃ (g : Addr) (ns : List GN) (R S : List (List Nat)), vs = [.ref g] ∧ GrAt K C H g ns R S ∧ Q (.int (ns.length : Nat)) H
theorem ok_gLen (B : Bt mg) {f : Addr} {fd : FuncData} (F : Fun K "__len__" "Graph.__len__" sGLen f fd) (L : Gr K mg C) : FnOk P w K mg base CX0 1 f fd ["self"] (spGLen K C) := by
  refine F.ok scGLen (fun vs H Q E h => ?_) (fun cdv A outer s H vs Q E hr h => ?_)
  · obtain ⟨g, ns, R, S, rfl, _⟩ := h
    rfl
  · obtain ⟨g, ns, R, S, rfl, gr, q⟩ := h
    --DL
    refine ⟨_, (pss_one (ps_ret (pe_callB call_len_seq (by rfl) B.len PySem.boot_len (pa_cons (pe_fld (pv 0) rfl) pa_nil)))), ?_⟩
    --EL
    obtain ⟨dx, pR, pS, vN, hx, rv, _⟩ := gr.ex
    obtain ⟨a0, xs, rfl, hs, hxs, _⟩ := rv.tupd'
    have lx : xs.length = ns.length := by rw [hxs.length, List.length_map]
    refine ⟨_, rfl, g, C, dx, _, _, rfl, hx, L.cl, L.nN, gr_N, a0, xs, rfl, .inr hs, ?_⟩
    rw [lx]
    exact q
end
end Sl

set_option Elab.async false
set_option linter.all false
set_option maxRecDepth 100000
set_option maxHeartbeats 400000
namespace Sl
open PySem PySem.Spec PyProof.Rows L2
abbrev sStream : Stmt := topT 33
abbrev sDraw : Stmt := topT 34
abbrev sPick : Stmt := topT 35
theorem scStream : FnScope ["_law_script", "_law_at", "_law_cell", "_law_great", "_law_mixed_here"] ["_law_script", "_law_at"] (defScope sStream) := ⟨rfl, rfl, rfl, by decide +kernel, rfl, by decide +kernel, by decide +kernel⟩
theorem scDraw : FnScope ["_law_stream_here", "_law_high", "_law_found", "_law_one", "_law_two"] ["_law_stream_here", "_law_high"] (defScope sDraw) := ⟨rfl, rfl, rfl, by decide +kernel, rfl, by decide +kernel, by decide +kernel⟩
theorem scPick : FnScope ["_law_stream_here", "_law_items"] ["_law_stream_here", "_law_items"] (defScope sPick) := ⟨rfl, rfl, rfl, by decide +kernel, rfl, by decide +kernel, by decide +kernel⟩
/-- a stream of draws stands at a -/
def Stm (a : Addr) (H : Hp) : Prop := ∃ g m c : Int, H a = some (.lst [.int g, .int m, .int c]) ∧ 0 ≤ g ∧ g.natAbs < 2 ^ 2000
theorem Stm.lst {a : Addr} {H : Hp} (h : Stm a H) : ∃ l, H a = some (.lst l) := by
  obtain ⟨g, m, c, e, _⟩ := h
  exact ⟨_, e⟩
theorem Off.ex' {a : Addr} {G G' : Hp} (h : Off a G G') (h1 : Stm a G) (h2 : Stm a G') : Ex G G' := by
  obtain ⟨l, e⟩ := h1.lst
  obtain ⟨l', e'⟩ := h2.lst
  exact h.ex e e'
theorem Stm.off {a b : Addr} {G G' : Hp} (h : Stm a G) (n : a ≠ b) (o : Off b G G') : Stm a G' := by
  obtain ⟨g, m, c, e, r⟩ := h
  exact ⟨g, m, c, o _ _ n e, r⟩
theorem Stm.same {a : Addr} {G G' : Hp} (h : Stm a G) (o : Same G G') : Stm a G' := by
  obtain ⟨g, m, c, e, r⟩ := h
  exact ⟨g, m, c, o _ _ e, r⟩
theorem op_powW {X : Cx} : OpR X (binaryOp .Pow) (rI (fun i j => 0 ≤ j ∧ (Builtin.Int.intBits i : Int) * j ≤ 2 ^ 27) fun i j => .int (i ^ j.toNat)) := opI fun _ _ _ _ _ _ _ hc q => pow_int hc.1 hc.2 q
section
variable {P : Program} {w : World} {K : PySem.W.Frag} {mg : Str → Option Value} {base : Heap}
def spDraw : Sp := fun vs H Q _ => ∃ (a : Addr) (n : Int), vs = [.ref a, .int n] ∧ Stm a H ∧ 1 ≤ n ∧ n.natAbs < 2 ^ 2000 ∧ ∀ r H', 0 ≤ r → r < n → Off a H H' → Stm a H' → Q (.int r) H'
theorem ok_draw {f : Addr} {fd : FuncData} (F : Fun K "_law_draw" "_law_draw" sDraw f fd) (B : Bt mg) : FnOk P w K mg base CX0 1 f fd ["_law_stream_here", "_law_high"] spDraw := by
  refine F.ok scDraw (fun vs H Q E h => ?_) (fun cdv A outer s H vs Q E hr h => ?_)
  · obtain ⟨a, n, rfl, _⟩ := h
    rfl
  · obtain ⟨a, n, rfl, ⟨g, m, c, ha, g0, g1⟩, n1, n2, q⟩ := h
    refine ⟨_, (pss_cons (ps_if (pt_cmpR op_gt (pe_ix ix_list (pv 0) pe_int (fun _ _ => rfl)) pe_int (nomark _))
        (pss_cons (ps_set (i := 2) scDraw.nd rfl (Or.inl rfl) (pe_op op_mod (pe_callTy call_int1 (by rfl) B.int (by decide +kernel) (pa_cons (pe_ix ix_list (pv 0) pe_int (fun _ _ => rfl)) pa_nil)) (pv 1)))
      (pss_cons (ps_asg (pe_op op_fdivW (pe_ix ix_list (pv 0) pe_int (fun _ _ => rfl)) (pv 1)) (pg_sub (pv 0) pe_int set_list))
      (pss_one (ps_ret (pv 2)))))
        pss_nil)
      (pss_cons (ps_asg (pe_op op_add (pe_ix ix_list (pv 0) pe_int (fun _ _ => rfl)) pe_int) (pg_sub (pv 0) pe_int set_list))
      (pss_cons (ps_set (i := 3) scDraw.nd rfl (Or.inl rfl) (pe_op op_mod (pe_callTy call_int1 (by rfl) B.int (by decide +kernel) (pa_cons (pe_op op_add (pe_ix ix_list (pv 0) pe_int (fun _ _ => rfl)) (pe_op op_mul pe_int (pe_ix ix_list (pv 0) pe_int (fun _ _ => rfl)))) pa_nil)) pe_int))
      (pss_cons (ps_set (i := 4) scDraw.nd rfl (Or.inl rfl) (pe_op op_add (pe_op op_mul (pe_op op_mod (pe_callTy call_int1 (by rfl) B.int (by decide +kernel) (pa_cons (pe_op op_mul (pv 3) (pv 3)) pa_nil)) pe_int) (pv 3)) (pe_op op_mul pe_int (pe_ix ix_list (pv 0) pe_int (fun _ _ => rfl)))))
      (pss_cons (ps_set (i := 4) scDraw.nd rfl (Or.inl rfl) (pe_op op_mod (pe_callTy call_int1 (by rfl) B.int (by decide +kernel) (pa_cons (pv 4) pa_nil)) pe_int))
      (pss_one (ps_ret (pe_op op_mod (pe_callTy call_int1 (by rfl) B.int (by decide +kernel) (pa_cons (pe_op op_fdivW (pv 4) pe_int) pa_nil)) (pv 1))))))))), ?_⟩
    refine ⟨.ref a, rfl, a, _, 0, _, rfl, rfl, SqL.of ha, atI_nat (j := 0) rfl, _, _, rfl, rfl, _, rfl, ite2 (fun e => ?_) (fun e => ?_)⟩
    · -- a great number
      refine ⟨.ref a, rfl, a, _, 0, _, rfl, rfl, SqL.of ha, atI_nat (j := 0) rfl, .inl ⟨g, rfl, .int n, rfl, _, _, rfl, rfl, by omega, ?_⟩⟩
      refine ⟨.ref a, rfl, a, _, 0, _, rfl, rfl, SqL.of ha, atI_nat (j := 0) rfl, .int n, rfl, _, _, rfl, rfl, wide_div (b := 2000) (by omega) n2 (by decide) (by decide), ?_⟩
      refine ⟨.ref a, rfl, a, _, 0, 0, rfl, rfl, ha, rfl, .int (g % n), rfl, ?_⟩
      refine q _ _ (Int.emod_nonneg _ (by omega)) (Int.emod_lt_of_pos _ (by omega)) .put ⟨g / n, m, c, upd_same, Int.ediv_nonneg g0 (by omega), ?_⟩
      have h1 : g / n ≤ g := Int.ediv_le_self n g0
      have h2 : 0 ≤ g / n := Int.ediv_nonneg g0 (by omega)
      omega
    · -- the walk of small numbers
      refine ⟨.ref a, rfl, a, _, 2, _, rfl, rfl, SqL.of ha, atI_nat (j := 2) rfl, _, _, rfl, rfl, .ref a, rfl, a, _, 2, 2, rfl, rfl, ha, rfl, ?_⟩
      have ha2 : (upd H a (.lst ([V.int g, .int m, .int c].set 2 (.int (c + 1))))) a = some (.lst [V.int g, .int m, .int (c + 1)]) := upd_same
      generalize hG : (upd H a (.lst ([V.int g, .int m, .int c].set 2 (.int (c + 1))))) = G at ha2 ⊢
      refine ⟨.ref a, rfl, a, _, 1, _, rfl, rfl, SqL.of ha2, atI_nat (j := 1) rfl, .ref a, rfl, a, _, 2, _, rfl, rfl, SqL.of ha2, atI_nat (j := 2) rfl, _, _, rfl, rfl, .inl (by decide), _, _, rfl, rfl, .inl ⟨_, rfl, _, _, rfl, rfl, (by show (0 : Int) < 2305843009213693951; decide), ?_⟩⟩
      dsimp only
      generalize hx : (m + 1000303 * (c + 1)) % 2305843009213693951 = x
      have x0 : 0 ≤ x := by rw [← hx]; exact Int.emod_nonneg _ (by decide)
      have x1 : x < 2305843009213693951 := by rw [← hx]; exact Int.emod_lt_of_pos _ (by decide)
      refine ⟨.int x, rfl, .int x, rfl, _, _, rfl, rfl, .inl (by omega), .inl ⟨_, rfl, _, _, rfl, rfl, (by show (0 : Int) < 2305843009213693921; decide), ?_⟩⟩
      refine ⟨.int x, rfl, _, _, rfl, rfl, .inr (by omega), .ref a, rfl, a, _, 2, _, rfl, rfl, SqL.of ha2, atI_nat (j := 2) rfl, _, _, rfl, rfl, .inl (by decide), _, _, rfl, rfl, ?_⟩
      dsimp only
      generalize (x * x) % 2305843009213693921 * x + 6911 * (c + 1) = y
      refine ⟨.int y, rfl, .inl ⟨_, rfl, _, _, rfl, rfl, (by show (0 : Int) < 2305843009213693907; decide), ?_⟩⟩
      dsimp only
      generalize y % 2305843009213693907 = z
      refine ⟨.int z, rfl, _, _, rfl, rfl, wide_div (b := 14) (by decide) (by decide) (by decide) (by decide), .inl ⟨_, rfl, .int n, rfl, _, _, rfl, rfl, by omega, ?_⟩⟩
      subst hG
      exact q _ _ (Int.emod_nonneg _ (by omega)) (Int.emod_lt_of_pos _ (by omega)) .put ⟨g, m, c + 1, upd_same, g0, g1⟩
theorem sqL_off {a l : Addr} {G G' : Hp} {xs : List V} (h : SqL K G l xs) (n : l ≠ a) (o : Off a G G') : SqL K G' l xs := by
  rcases h with (h | ⟨ob, h⟩) | h
  · exact .inl (.inl (o _ _ n h))
  · exact .inl (.inr ⟨ob, o _ _ n h⟩)
  · exact .inr h
theorem small_big {n : Nat} (h : n ≤ 100000) : n < 2 ^ 2000 := Nat.lt_of_le_of_lt h (Nat.lt_of_lt_of_le (by decide : 100000 < 2 ^ 20) (Nat.pow_le_pow_right (by decide) (by decide)))
def spPick (K : PySem.W.Frag) : Sp := fun vs H Q _ => ∃ (a l : Addr) (xs : List V), vs = [.ref a, .ref l] ∧ Stm a H ∧ l ≠ a ∧ SqL K H l xs ∧ 1 ≤ xs.length ∧ xs.length ≤ 100000 ∧
  ∀ (i : Nat) x H', xs[i]? = some x → Off a H H' → Stm a H' → Q x H'
theorem ok_pick {f fD : Addr} {fd fdD : FuncData} (F : Fun K "_law_pick" "_law_pick" sPick f fd) (FD : Fun K "_law_draw" "_law_draw" sDraw fD fdD) (bD : Binds K fdD ["_law_stream_here", "_law_high"] []) (gD : mg "_law_draw" = some (.ref fD)) (B : Bt mg) :
    FnOk P w K mg base CX0 2 f fd ["_law_stream_here", "_law_items"] (spPick K) := by
  have GD : FnOk P w K mg base CX0 1 fD fdD ["_law_stream_here", "_law_high"] spDraw := ok_draw FD B
  refine F.ok scPick (fun vs H Q E h => ?_) (fun cdv A outer s H vs Q E hr h => ?_)
  · obtain ⟨a, l, xs, rfl, _⟩ := h
    rfl
  · obtain ⟨a, l, xs, rfl, hs, hne, hl, z1, z2, q⟩ := h
    refine ⟨_, (pss_one (ps_ret (pe_ix ix_list (pv 1) (pe_call GD hr (by rfl) gD FD.kp bD .nil pass0 (pa_cons (pv 0) (pa_cons (pe_callB call_len_seq (by rfl) B.len PySem.boot_len (pa_cons (pv 1) pa_nil)) pa_nil))) (fun _ _ => rfl)))), ?_⟩
    refine ⟨.ref l, rfl, .ref a, rfl, .ref l, rfl, l, xs, rfl, .inl hl, a, _, rfl, hs, by omega, ?_, fun r H' r0 r1 ho hs' => ?_⟩
    · exact small_big z2
    · have hlt : r.toNat < xs.length := by omega
      have e : xs[r.toNat]? = some xs[r.toNat] := List.getElem?_eq_getElem hlt
      refine ⟨l, xs, r, xs[r.toNat], rfl, rfl, sqL_off hl hne ho, ?_, q r.toNat _ H' e ho hs'⟩
      have h1 := atI_nat e
      rw [Int.toNat_of_nonneg r0] at h1
      exact h1
/-- the great number that cuts what a cell brings -/
def big : Int := ((10 : Int) ^ (60 : Int).toNat) ^ (10 : Int).toNat
theorem big_pos : 0 < big := by decide +kernel
theorem big_lt : big.natAbs < 2 ^ 2000 := by decide +kernel
def spStream (K : PySem.W.Frag) : Sp := fun vs H Q _ => ∃ (a : Addr) (ns : List Int) (i : Nat), vs = [.ref a, .int i] ∧ SqL K H a (ns.map V.int) ∧ ∀ p H', H p = none → Same H H' → Stm p H' → Q (.ref p) H'
theorem ok_stream {f : Addr} {fd : FuncData} (F : Fun K "_law_stream" "_law_stream" sStream f fd) (B : Bt mg) : FnOk P w K mg base CX0 1 f fd ["_law_script", "_law_at"] (spStream K) := by
  refine F.ok scStream (fun vs H Q E h => ?_) (fun cdv A outer s H vs Q E hr h => ?_)
  · obtain ⟨a, ns, i, rfl, _⟩ := h
    rfl
  · obtain ⟨a, ns, i, rfl, ha, q⟩ := h
    refine ⟨_, (pss_cons (ps_set (i := 2) scStream.nd rfl (Or.inl rfl) (pe_op op_add (pe_op op_mul pe_int (pv 1)) pe_int))
      (C8.pss_cut (ps_if (pt_cmpR op_lt (pv 1) (pe_callB call_len_seq (by rfl) B.len PySem.boot_len (pa_cons (pv 0) pa_nil)) (nomark _))
        (pss_one (ps_set (i := 2) scStream.nd rfl (Or.inl rfl) (pe_ix ix_list (pv 0) (pv 1) (fun _ _ => rfl))))
        pss_nil)
      (pss_cons (ps_set (i := 3) scStream.nd rfl (Or.inl rfl) (pe_op op_mod (pe_callTy call_int1 (by rfl) B.int (by decide +kernel) (pa_cons (pe_callB call_abs (by rfl) B.abs (by decide +kernel) (pa_cons (pv 2) pa_nil)) pa_nil)) (pe_op op_powW (pe_op op_powW pe_int pe_int) pe_int)))
      (pss_cons (ps_set (i := 4) scStream.nd rfl (Or.inl rfl) (pe_op op_add (pe_op op_add (pe_op op_add (pe_op op_mul (pe_op op_mod (pe_callTy call_int1 (by rfl) B.int (by decide +kernel) (pa_cons (pv 3) pa_nil)) pe_int) pe_int) (pe_op op_mul pe_int (pv 1))) (pe_op op_mul pe_int (pe_callTy call_int1 (by rfl) B.int (by decide +kernel) (pa_cons (pe_cmpR op_lt (pv 2) pe_int (nomark _)) pa_nil)))) pe_int))
      (pss_one (ps_ret (pe_lst (pa_cons (pe_callB (call_max2 rfl) (by rfl) B.max (by decide +kernel) (pa_cons pe_int (pa_cons (pe_op op_sub (pv 3) (pe_op op_pow pe_int pe_int)) pa_nil))) (pa_cons (pe_op op_mod (pe_callTy call_int1 (by rfl) B.int (by decide +kernel) (pa_cons (pv 4) pa_nil)) pe_int) (pa_cons pe_int pa_nil)))))))))), ?_⟩
    refine ⟨.int i, rfl, _, _, rfl, rfl, .inl (by decide), _, _, rfl, rfl, fun σ' H' => ∃ c : Int, σ' = [some (.ref a), some (.int i), some (.int c), none, none] ∧ H' = H, ?_, ?_⟩
    rotate_left
    · rintro σ' H' ⟨c, rfl, rfl⟩
      refine ⟨.int c, rfl, c, rfl, .inl ⟨_, rfl, _, _, rfl, rfl, ⟨by decide, by decide +kernel⟩, _, _, rfl, rfl, ⟨by decide, by decide +kernel⟩, _, _, rfl, rfl, big_pos, ?_⟩⟩
      dsimp only
      rw [show ((10 : Int) ^ (60 : Int).toNat) ^ (10 : Int).toNat = big from rfl]
      generalize hg : (if c < 0 then -c else c) % big = g
      have g0 : 0 ≤ g := by rw [← hg]; exact Int.emod_nonneg _ (Int.ne_of_gt big_pos)
      have g1 : g < big := by rw [← hg]; exact Int.emod_lt_of_pos _ big_pos
      refine ⟨.int g, rfl, .inl ⟨g, rfl, _, _, rfl, rfl, (by show (0 : Int) < 2147483423; decide), _, _, rfl, rfl, .inr (by decide), .int i, rfl, _, _, rfl, rfl, .inl (by decide), _, _, rfl, rfl, ?_⟩⟩
      refine ⟨.int c, rfl, _, _, rfl, rfl, .inr ⟨_, rfl, _, _, rfl, rfl, .inl (by decide), _, _, rfl, rfl, _, _, rfl, rfl, ?_⟩⟩
      dsimp only
      generalize ((g % 2147483423 * 45121 + 2017 * (i : Int) + 5 * (if decide (c < 0) = true then 1 else 0)) + 23 : Int) = m
      refine ⟨.int g, rfl, _, _, rfl, rfl, ⟨by decide, by decide, by decide⟩, _, _, rfl, rfl, _, _, rfl, .int m, rfl, .inl ⟨m, rfl, _, _, rfl, rfl, (by show (0 : Int) < 2147483399; decide), (by show 3 ≤ sizeLine; decide), fun p np => ?_⟩⟩
      refine q p _ np (Same.new np) ⟨_, _, _, upd_same, ?_, ?_⟩
      · split <;> omega
      · have hb := big_lt
        have h18 : 0 ≤ (10 : Int) ^ (18 : Int).toNat := by decide +kernel
        split <;> omega
    refine ⟨.int i, rfl, .ref a, rfl, a, _, rfl, .inl ha, _, _, rfl, rfl, _, rfl, ite2 (fun e => ?_) (fun e => ?_)⟩
    · have h1 : i < ns.length := by
        have := of_decide_eq_true e
        rw [List.length_map] at this
        omega
      have h2 : (ns.map V.int)[i]? = some (.int ns[i]) := by
        rw [List.getElem?_map, List.getElem?_eq_getElem h1]
        rfl
      exact ⟨.ref a, rfl, .int i, rfl, a, _, i, _, rfl, rfl, ha, atI_nat h2, _, rfl, rfl⟩
    · exact ⟨_, rfl, rfl⟩
end
end Sl


set_option Elab.async false
set_option linter.all false
set_option maxRecDepth 100000
set_option maxHeartbeats 400000
namespace Sl
open PySem PySem.Spec PyProof.Rows L2
abbrev sMixed : Stmt := topT 36
abbrev sInner : Stmt := topT 37
theorem scMixed : FnScope ["_law_stream_here", "_law_items", "_law_left", "_law_turn"] ["_law_stream_here", "_law_items"] (defScope sMixed) := ⟨rfl, rfl, rfl, by decide +kernel, rfl, by decide +kernel, by decide +kernel⟩
theorem scInner : FnScope ["_law_part_here", "_law_name_here", "_law_inner_here"] ["_law_part_here"] (defScope sInner) := ⟨rfl, rfl, rfl, by decide +kernel, rfl, by decide +kernel, by decide +kernel⟩
/-- what len asks of a list or a tuple -/
abbrev rLenS (K : PySem.W.Frag) : List V → Hp → VK → Prop := fun xs H Q => ∃ p ys, xs = [.ref p] ∧ (SqL K H p ys ∨ SqT K H p ys) ∧ Q (.int ys.length) H
/-- the stream at a may move; all else stays -/
def Jst (a : Addr) (G G' : Hp) : Prop := Stm a G ∧ Stm a G' ∧ Off a G G'
theorem jr_st (a : Addr) : Jr (Jst a) := by
  refine ⟨fun ⟨h1, _, o1⟩ ⟨_, h2, o2⟩ => ⟨h1, h2, o1.trans o2⟩, fun ⟨h1, h2, o⟩ => o.ex' h1 h2, fun {G G' D o} ⟨h1, h2, of⟩ n => ?_, fun {G0 G G' D l} ⟨h1, _, _⟩ n ⟨_, _, of⟩ e => ?_⟩
  · have ne : a ≠ D := fun z => by
      obtain ⟨l, e⟩ := h1.lst
      rw [z, n] at e
      cases e
    refine ⟨h1, ?_, fun b x hb e => ?_⟩
    · obtain ⟨g, m, c, e, r⟩ := h2
      exact ⟨g, m, c, by rw [upd_ne ne]; exact e, r⟩
    · rw [upd_ne (ne_of_none e n)]
      exact of b x hb e
  · refine of _ _ (fun z => ?_) e
    obtain ⟨l, e2⟩ := h1.lst
    rw [← z, n] at e2
    cases e2
theorem Jst.refl {a : Addr} {G : Hp} (h : Stm a G) : Jst a G G := ⟨h, h, .refl a G⟩
theorem Jst.of {a : Addr} {G G' : Hp} (h : Stm a G) (o : Off a G G') (h' : Stm a G') : Jst a G G' := ⟨h, h', o⟩
theorem Jst.same {a : Addr} {G G' : Hp} (h : Stm a G) (s : Same G G') : Jst a G G' := ⟨h, h.same s, .same s⟩
theorem Jst.trans {a : Addr} {G G1 G2 : Hp} (x : Jst a G G1) (y : Jst a G1 G2) : Jst a G G2 := (jr_st a).tr x y
section
variable {P : Program} {w : World} {K : PySem.W.Frag} {mg : Str → Option Value} {base : Heap}
/-- the law's draws -/
structure Lw (K : PySem.W.Frag) (mg : Str → Option Value) (fSt fDr fPk fMx : Addr) (fdSt fdDr fdPk fdMx : FuncData) : Prop where
  FSt : Fun K "_law_stream" "_law_stream" sStream fSt fdSt
  bSt : Binds K fdSt ["_law_script", "_law_at"] []
  gSt : mg "_law_stream" = some (.ref fSt)
  FDr : Fun K "_law_draw" "_law_draw" sDraw fDr fdDr
  bDr : Binds K fdDr ["_law_stream_here", "_law_high"] []
  gDr : mg "_law_draw" = some (.ref fDr)
  FPk : Fun K "_law_pick" "_law_pick" sPick fPk fdPk
  bPk : Binds K fdPk ["_law_stream_here", "_law_items"] []
  gPk : mg "_law_pick" = some (.ref fPk)
  FMx : Fun K "_law_mixed" "_law_mixed" sMixed fMx fdMx
  bMx : Binds K fdMx ["_law_stream_here", "_law_items"] []
  gMx : mg "_law_mixed" = some (.ref fMx)
variable {fSt fDr fPk fMx : Addr} {fdSt fdDr fdPk fdMx : FuncData}
theorem g_draw (L : Lw K mg fSt fDr fPk fMx fdSt fdDr fdPk fdMx) (B : Bt mg) : FnOk P w K mg base CX0 1 fDr fdDr ["_law_stream_here", "_law_high"] spDraw := ok_draw L.FDr B
theorem g_pick (L : Lw K mg fSt fDr fPk fMx fdSt fdDr fdPk fdMx) (B : Bt mg) : FnOk P w K mg base CX0 2 fPk fdPk ["_law_stream_here", "_law_items"] (spPick K) := ok_pick L.FPk L.FDr L.bDr L.gDr B
def spMixed (K : PySem.W.Frag) : Sp := fun vs H Q _ => ∃ (a l : Addr) (xs : List V), vs = [.ref a, .ref l] ∧ Stm a H ∧ l ≠ a ∧ SqL K H l xs ∧ xs.length ≤ 1000 ∧
  ∀ ys p H', ys.Perm xs → H p = none → Jst a H H' → H' p = some (.lst ys) → Q (.ref p) H'
theorem perm_erase {α : Type} {xs : List α} {k : Nat} {y : α} (h : xs[k]? = some y) : xs.Perm (y :: xs.eraseIdx k) := by
  induction xs generalizing k with
  | nil => simp at h
  | cons x xs ih =>
    cases k with
    | zero =>
      have e := Option.some.inj h
      rw [e]
      exact List.Perm.refl _
    | succ k =>
      have := ih (k := k) h
      exact (this.cons x).trans (List.Perm.swap y x _)
theorem ok_mixed (L : Lw K mg fSt fDr fPk fMx fdSt fdDr fdPk fdMx) (B : Bt mg) : FnOk P w K mg base CX0 2 fMx fdMx ["_law_stream_here", "_law_items"] (spMixed K) := by
  have GD : FnOk P w K mg base CX0 1 fDr fdDr ["_law_stream_here", "_law_high"] spDraw := g_draw L B
  refine L.FMx.ok scMixed (fun vs H Q E h => ?_) (fun cdv A outer s H vs Q E hr h => ?_)
  · obtain ⟨a, l, xs, rfl, _⟩ := h
    rfl
  · obtain ⟨a, l, xs, rfl, hs, hne, hl, hz, q⟩ := h
    refine ⟨_, pss_cons (ps_set (i := 2) scMixed.nd rfl (Or.inr rfl) (pe_callTy call_list_of (by rfl) B.list (by decide +kernel) (pa_cons (pv 1) pa_nil)))
      (pss_one (ps_ret (pe_lc (own := [("_law_turn", 3)]) (g := gName 3) (tt := tYes) (te := tBM K "list" rPopAt (tVar 2) (tCons (tCall spDraw [] E0 (tCons (tVar 0) (tCons (tCB (rLenS K) (tCons (tVar 2) tNil)) tNil))) tNil)) rfl scMixed.nd (pi_range1 (by rfl) B.range (pa_cons (pe_callB call_len_seq (by rfl) B.len PySem.boot_len (pa_cons (pv 1) pa_nil)) pa_nil))
        (blkOk_by (own := [("_law_turn", 3)]) (N := ["_law_stream_here", "_law_items", "_law_left", "_law_turn"]) (sc := defScope sMixed) (by decide +kernel))
        (fun _ _ _ _ _ => pg_name (i := 3) scMixed.nd rfl (Or.inl rfl)) (fun _ _ _ _ _ => pts_nil)
        (fun _ _ _ _ _ => by exact pe_bm PySem.F.plainAttrs_list PySem.F.slot_list_pop PySem.F.type_list_pop mt_popAt (pv 2) (pa_cons (pe_call GD hr (by rfl) L.gDr L.FDr.kp L.bDr .nil pass0 (pa_cons (pv 0) (pa_cons (pe_callB call_len_seq (by rfl) B.len PySem.boot_len (pa_cons (pv 2) pa_nil)) pa_nil))) pa_nil))))), ?_⟩
    refine ⟨.ref l, rfl, l, xs, rfl, .inl hl, fun m nm => ?_⟩
    have s1 := Same.new (o := .lst xs) nm
    have hm : (upd H m (.lst xs)) m = some (.lst xs) := upd_same
    have ma : m ≠ a := fun z => by
      obtain ⟨l', e⟩ := hs.lst
      rw [← z, nm] at e
      cases e
    generalize upd H m (.lst xs) = H1 at s1 hm ⊢
    have j1 : Jst a H H1 := .same hs s1
    refine ⟨.ref l, rfl, l, xs, rfl, .inl (Same.seq s1 hl), xs.length, rfl, by omega, by omega, fun D0 nD => ?_⟩
    have md : m ≠ D0 := ne_of_none hm nD
    have ad : a ≠ D0 := fun z => by
      obtain ⟨l', e⟩ := j1.2.1.lst
      rw [z, nD] at e
      cases e
    refine lc_range (fun i H' => Stm a H' ∧ ∃ left acc, H' m = some (.lst left) ∧ H' D0 = some (.lst acc) ∧ (acc ++ left).Perm xs ∧ left.length + i = xs.length ∧ ∀ b o, b ≠ a → b ≠ m → b ≠ D0 → H1 b = some o → H' b = some o) ?_ ?_ ?_
    · refine ⟨?_, xs, [], by rw [upd_ne md]; exact hm, upd_same, List.Perm.refl _, rfl, fun b o _ _ hb e => by rw [upd_ne hb]; exact e⟩
      obtain ⟨g, m', c, e, r⟩ := j1.2.1
      exact ⟨g, m', c, by rw [upd_ne ad]; exact e, r⟩
    · rintro i H' hi ⟨hst, left, acc, hml, hD, hp, hlen, keep⟩
      have lt : left.length ≠ 0 := by omega
      refine ⟨rfl, ?_⟩
      unfold tYes
      dsimp only
      rw [if_pos rfl]
      refine ⟨.ref m, rfl, .inl ⟨rfl, _, SqL.of hml⟩, .ref a, rfl, .ref m, rfl, m, left, rfl, .inl (SqL.of hml), a, (left.length : Nat), rfl, hst, by omega, small_big (by omega), fun r H2 r0 r1 ho hst2 => ?_⟩
      have hml2 := ho _ _ ma hml
      have hD2 := ho _ _ (Ne.symm ad) hD
      have hlt : r.toNat < left.length := by omega
      have hi' : seqIndex? r left.length = some r.toNat := (ixN_seq (by unfold ixN; rw [if_pos r0, if_pos (by omega)])).1
      refine ⟨m, left, r, r.toNat, left[r.toNat], rfl, rfl, hml2, by omega, by omega, hi', List.getElem?_eq_getElem hlt, ?_⟩
      refine ⟨acc, by rw [upd_ne (Ne.symm md)]; exact hD2, ?_, ?_, left.eraseIdx r.toNat, acc ++ [left[r.toNat]], by rw [upd_ne md]; exact upd_same, upd_same, ?_, ?_, fun b o h1 h2 h3 e => ?_⟩
      · have := hp.length_eq
        rw [List.length_append] at this
        have sl := sizeLine_eq
        omega
      · obtain ⟨g, m', c, e, r⟩ := hst2
        exact ⟨g, m', c, by rw [upd_ne ad, upd_ne (Ne.symm ma)]; exact e, r⟩
      · have p1 := perm_erase (List.getElem?_eq_getElem hlt)
        have p2 : (acc ++ left).Perm (acc ++ (left[r.toNat] :: left.eraseIdx r.toNat)) := List.Perm.append_left _ p1
        rw [List.append_assoc]
        exact p2.symm.trans hp
      · rw [List.length_eraseIdx_of_lt hlt]
        omega
      · rw [upd_ne h3, upd_ne h2]
        exact ho _ _ h1 (keep b o h1 h2 h3 e)
    · rintro H' ⟨hst, left, acc, hml, hD, hp, hlen, keep⟩
      have e : left = [] := List.length_eq_zero_iff.mp (by omega)
      subst e
      rw [List.append_nil] at hp
      refine q acc D0 H' hp ?_ ⟨hs, hst, fun b o hb e => ?_⟩ hD
      · cases e : H D0 with
        | none => rfl
        | some o =>
          rw [s1 _ _ e] at nD
          cases nD
      · refine keep b o hb (fun z => ?_) (fun z => ?_) (s1 _ _ e)
        · rw [z, nm] at e
          cases e
        · have := s1 _ _ e
          rw [z, nD] at this
          cases this
end
end Sl

set_option Elab.async false
set_option linter.all false
set_option maxRecDepth 100000
set_option maxHeartbeats 400000
namespace Sl
open PySem PySem.Spec PyProof.Rows L2
theorem _root_.L2.Same.fr {H H1 : Hp} {p : Addr} (s : Same H H1) (n : H1 p = none) : H p = none := by
  cases e : H p with
  | none => rfl
  | some o =>
    rw [s _ _ e] at n
    cases n
/-! ### displays: what they give, piece by piece -/
section
variable {K : PySem.W.Frag} {σ : L2.St} {G : Hp}
/-- the expression gives a value of this kind and changes nothing that stood -/
def Gv (K : PySem.W.Frag) (σ : L2.St) (G : Hp) (te : TE) (d : D) : Prop := ∀ (H : Hp) (Q : VK), Same G H → (∀ v H', Same H H' → Rdd K H' v d → Q v H') → te σ H Q
def Gva (K : PySem.W.Frag) (σ : L2.St) (G : Hp) (ta : TA) (ds : List D) : Prop := ∀ (H : Hp) (Q : List V → Hp → Prop), Same G H → (∀ vs H', Same H H' → RddAll K H' vs ds → Q vs H') → ta σ H Q
theorem gv_int (i : Int) : Gv K σ G (tC (.int i)) (.int i) := fun H Q _ q => q _ H (Same.refl _) (.int i)
theorem gv_bl (b : Bool) : Gv K σ G (tC (.bl b)) (.bl b) := fun H Q _ q => q _ H (Same.refl _) (.bl b)
theorem gv_non : Gv K σ G (tC .non) .non := fun H Q _ q => q _ H (Same.refl _) .non
theorem gv_str (x : Str) : Gv K σ G (tC (.str x)) (.str x) := fun H Q _ q => q _ H (Same.refl _) (.str x)
theorem gv_var {i : Nat} {v : V} {d : D} (h : σ[i]? = some (some v)) (r : Rdd K G v d) : Gv K σ G (tVar i) d := fun H Q s q => ⟨v, h, q _ H (Same.refl _) (Rdd.ex (.same s) d r)⟩
theorem gva_nil : Gva K σ G tNil [] := fun H Q _ q => q _ H (Same.refl _) .nil
theorem gva_cons {te : TE} {ta : TA} {d : D} {ds : List D} (h1 : Gv K σ G te d) (h2 : Gva K σ G ta ds) : Gva K σ G (tCons te ta) (d :: ds) := fun H Q s q =>
  h1 H _ s fun v H1 s1 r1 => h2 H1 _ (s.trans s1) fun vs H2 s2 r2 => q _ _ (s1.trans s2) (.cons (Rdd.ex (.same s2) d r1) r2)
theorem gv_tup {ta : TA} {ds : List D} (h : Gva K σ G ta ds) (hz : ds.length ≤ 100000 := by first | decide | (simp only [List.length_cons, List.length_nil]; omega)) : Gv K σ G (tTup ta) (.tup ds) := fun H Q s q =>
  h H _ s fun vs H1 s1 r1 => by
    have hl := r1.length
    have h2 : sizeLine = 16777216 := sizeLine_eq
    refine ⟨by omega, fun p np => ?_⟩
    have s2 := Same.new (o := .tup vs) np
    exact q _ _ (s1.trans s2) (.tup (SqT.of upd_same) (RddAll.ex (.same s2) _ r1) hz)
theorem gv_lst {ta : TA} {ds : List D} (h : Gva K σ G ta ds) (hz : ds.length ≤ 100000 := by first | decide | (simp only [List.length_cons, List.length_nil]; omega)) : Gv K σ G (tLst ta) .lst := fun H Q s q =>
  h H _ s fun vs H1 s1 r1 => by
    have hl := r1.length
    have h2 : sizeLine = 16777216 := sizeLine_eq
    refine ⟨by omega, fun p np => ?_⟩
    exact q _ _ (s1.trans (Same.new np)) (.lst (.base (.lst upd_same)))
/-- a list display, its items known -/
theorem lst_gv {ta : TA} {ds : List D} {H : Hp} {Q : VK} (h : Gva K σ G ta ds) (s : Same G H) (hz : ds.length ≤ 100000) (q : ∀ p vs H', H p = none → Same H H' → H' p = some (.lst vs) → RddAll K H' vs ds → Q (.ref p) H') : tLst ta σ H Q :=
  h H _ s fun vs H1 s1 r1 => by
    have hl := r1.length
    have h2 : sizeLine = 16777216 := sizeLine_eq
    refine ⟨by omega, fun p np => ?_⟩
    have s2 := Same.new (o := .lst vs) np
    exact q p vs _ (s1.fr np) (s1.trans s2) upd_same (RddAll.ex (.same s2) _ r1)
theorem lst_gvE {ta : TA} {H : Hp} {Q : VK} (h : ∃ ds, Gva K σ G ta ds ∧ 1 ≤ ds.length ∧ ds.length ≤ 1000) (s : Same G H) (q : ∀ ds p vs H', 1 ≤ ds.length ∧ ds.length ≤ 1000 → H p = none → Same H H' → H' p = some (.lst vs) → RddAll K H' vs ds → Q (.ref p) H') : tLst ta σ H Q := by
  obtain ⟨ds, h1, h2⟩ := h
  exact lst_gv h1 s (by omega) (q ds · · · h2)
theorem gv_dict {te : TE} (h : ∀ H Q, (∀ p, H p = none → Q (.ref p) (upd H p (.dK []))) → te σ H Q) : Gv K σ G te .dct := fun H Q s q =>
  h H Q fun p np => q _ _ (Same.new np) (.dct (.base (.dK upd_same)))
theorem gv_opI {C : Int → Int → Prop} {g : Int → Int → Int} {ta tb : TE} {i j : Int} (h1 : Gv K σ G ta (.int i)) (h2 : Gv K σ G tb (.int j)) (hc : C i j) : Gv K σ G (tOp (rI C fun i j => .int (g i j)) ta tb) (.int (g i j)) := fun H Q s q =>
  h1 H _ s fun v H1 s1 r1 => h2 H1 _ (s.trans s1) fun u H2 s2 r2 => by
    cases r1
    cases r2
    exact ⟨i, j, rfl, rfl, hc, q _ _ (s1.trans s2) (.int _)⟩
theorem gv_opI0 {g : Int → Int → Int} {ta tb : TE} {i j : Int} (h1 : Gv K σ G ta (.int i)) (h2 : Gv K σ G tb (.int j)) : Gv K σ G (tOp (rI0 fun i j => .int (g i j)) ta tb) (.int (g i j)) := fun H Q s q =>
  h1 H _ s fun v H1 s1 r1 => h2 H1 _ (s.trans s1) fun u H2 s2 r2 => by
    cases r1
    cases r2
    exact ⟨i, j, rfl, rfl, q _ _ (s1.trans s2) (.int _)⟩
end
end Sl

set_option Elab.async false
set_option linter.all false
set_option maxRecDepth 100000
set_option maxHeartbeats 400000
namespace Sl
open PySem PySem.Spec PyProof.Rows L2
abbrev sDrawn : Stmt := topT 38
abbrev sBlock : Stmt := topT 39
abbrev sHeaded : Stmt := topT 40
theorem scDrawn : FnScope ["_law_stream_here", "_law_deep", "_law_seen", "_law_way", "_law_sign", "_law_size", "_law_name_here", "_law_turn"] ["_law_stream_here", "_law_deep", "_law_seen"] (defScope sDrawn) := ⟨rfl, rfl, rfl, by decide +kernel, rfl, by decide +kernel, by decide +kernel⟩
theorem scBlock : FnScope ["_law_stream_here", "_law_deep", "_law_seen", "_law_names", "_law_inner_here", "_law_rows", "_law_name_here", "_law_one"] ["_law_stream_here", "_law_deep", "_law_seen"] (defScope sBlock) := ⟨rfl, rfl, rfl, by decide +kernel, rfl, by decide +kernel, by decide +kernel⟩
theorem scHeaded : FnScope ["_law_stream_here", "_law_deep", "_law_seen", "_law_outside", "_law_way", "_law_name_here", "_law_sign", "_law_size", "_law_turn"] ["_law_stream_here", "_law_deep", "_law_seen", "_law_outside"] (defScope sHeaded) := ⟨rfl, rfl, rfl, by decide +kernel, rfl, by decide +kernel, by decide +kernel⟩
theorem OpN.up : ∀ {n : Nat} {d : D}, OpN n d → OpN (n + 1) d
  | 0, _, h => h.elim
  | n + 1, d, h => OpN.s.mpr ⟨(OpN.s.mp h).1, fun e he => ((OpN.s.mp h).2 e he).up⟩
theorem OpN.le {n m : Nat} {d : D} (h : OpN n d) (l : n ≤ m) : OpN m d := by
  induction l with
  | refl => exact h
  | step _ ih => exact ih.up
theorem op_U {n : Nat} {x : Str} (h : nmOk x = true) : OpN (n + 1) (mkU x) := OpN.s.mpr ⟨⟨by rw [built_U]; exact h, by rw [inn_U]; simp⟩, fun e he => by rw [inn_U] at he; cases he⟩
theorem op_W {n : Nat} {x : Str} {l : List D} (h : nmOk x = true) (hl : l.length ≤ 3) (hi : ∀ e ∈ l, OpN n e) : OpN (n + 1) (mkW x l) :=
  OpN.s.mpr ⟨⟨by rw [built_W, h, decide_eq_true hl]; rfl, by rw [inn_W]; omega⟩, fun e he => hi e (by rw [inn_W] at he; exact he)⟩
theorem op_F {n : Nat} {x : Str} {b : D} (h : nmOk x = true) (hb : OpN n b) : OpN (n + 1) (mkF x b) :=
  OpN.s.mpr ⟨⟨by rw [built_F]; exact h, by rw [inn_F]; simp⟩, fun e he => by rw [inn_F] at he; rw [List.mem_singleton.mp he]; exact hb⟩
theorem op_L {n : Nat} {ps : List (Str × D)} {b : D} (h : DefOk ps) (h3 : ps.length ≤ 3) (hp : ∀ p ∈ ps, OpN n p.2) (hb : OpN n b) : OpN (n + 1) (mkL ps b) :=
  OpN.s.mpr ⟨⟨built_L.mpr h, by rw [inn_L, List.length_append, List.length_map]; simp; omega⟩, fun e he => by
    rw [inn_L] at he
    rcases List.mem_append.mp he with he | he
    · obtain ⟨p, hp', rfl⟩ := List.mem_map.mp he
      exact hp p hp'
    · rw [List.mem_singleton.mp he]
      exact hb⟩
section
variable {P : Program} {w : World} {K : PySem.W.Frag} {mg : Str → Option Value} {base : Heap}
theorem Stm.ne {a p : Addr} {H : Hp} (h : Stm a H) (n : H p = none) : p ≠ a := fun z => by
  obtain ⟨l, e⟩ := h.lst
  rw [← z, n] at e
  cases e
/-- a draw from a display -/
theorem pick_gv {σ : L2.St} {G H : Hp} {ta : TA} {ds : List D} {a : Addr} {Q : VK} (h : Gva K σ G ta ds) (s : Same G H) (hs : Stm a H) (h1 : 1 ≤ ds.length) (h2 : ds.length ≤ 1000) (q : ∀ x d H', d ∈ ds → Jst a H H' → Rdd K H' x d → Q x H') :
    tLst ta σ H (fun x H1 => spPick K [V.ref a, x] H1 Q E0) :=
  lst_gv h s (by omega) fun p vs H1 np s1 hp r => by
    have len := r.length
    refine ⟨a, p, vs, rfl, hs.same s1, hs.ne np, SqL.of hp, by omega, by omega, fun i x H2 hx ho hs2 => ?_⟩
    obtain ⟨d, hd, rd⟩ := r.get hx
    have j : Jst a H1 H2 := ⟨hs.same s1, hs2, ho⟩
    exact q x d H2 (List.mem_of_getElem? hd) ((Jst.same hs s1).trans j) (Rdd.ex ((jr_st a).ex j) _ rd)
/-- the names that can be used -/
def Sn (K : PySem.W.Frag) (H : Hp) (l : Addr) (xs : List Str) : Prop := H l = some (.lst (xs.map V.str)) ∧ ∀ x ∈ xs, nmOk x = true
theorem strs_dp {H : Hp} : ∀ xs : List Str, DpAll K H (xs.map V.str) (xs.map PyData.str)
  | [] => .nil
  | x :: xs => .cons (.str x) (strs_dp xs)
theorem nm_ascii {x : Str} (h : nmOk x = true) : Txt.isascii x = true := by
  unfold nmOk nmTail at h
  simp only [Bool.and_eq_true] at h
  exact h.2.1
theorem nm_strOk {x : Str} (h : nmOk x = true) : PyData.strOk x = true := by
  have a := nm_ascii h
  unfold Txt.isascii at a
  unfold PyData.strOk
  rw [Array.all_eq_true] at a ⊢
  intro i hi
  have := a i hi
  simp only [decide_eq_true_eq] at this ⊢
  omega
theorem strs_lay : ∀ xs : List Str, (∀ x ∈ xs, nmOk x = true) → PyData.canLayAll0 (xs.map PyData.str) = true
  | [], _ => by simp [PyData.canLayAll0]
  | x :: xs, h => by
    rw [List.map_cons]
    unfold PyData.canLayAll0
    rw [strs_lay xs fun y hy => h y (List.mem_cons_of_mem _ hy)]
    simp [PyData.canLay0, nm_strOk (h x List.mem_cons_self)]
theorem strs_depth : ∀ xs : List Str, PyData.depthAll (xs.map PyData.str) = 0
  | [] => by simp [PyData.depthAll]
  | x :: xs => by
    rw [List.map_cons]
    unfold PyData.depthAll
    rw [strs_depth xs]
    simp [PyData.depth]
/-- l != [] -/
theorem ne_nil {H : Hp} {l p : Addr} {xs : List Str} {Q : VK} (ok : ∀ x ∈ xs, nmOk x = true) (h : SqL K H l (xs.map V.str)) (hp : SqL K H p []) (q : Q (.bl (!xs.isEmpty)) H) : rNeD K (.ref l) (.ref p) H Q := by
  refine ⟨.list (xs.map PyData.str), .list [], .lst h (strs_dp xs), .lst hp .nil, ?_, by rfl, ?_⟩
  · unfold SeqAt.shaped
    have c : (PyData.list (xs.map PyData.str)).canLay0 = true := by
      simp only [PyData.canLay0]
      exact strs_lay xs ok
    have d : (PyData.list (xs.map PyData.str)).depth ≤ 64 := by
      simp only [PyData.depth]
      rw [strs_depth]
      omega
    rw [c, decide_eq_true d]
    rfl
  · have e : PyData.eqv (.list (xs.map PyData.str)) (.list []) = xs.isEmpty := by
      cases xs with
      | nil => rfl
      | cons x xs => rfl
    rw [e]
    exact q
end
end Sl

set_option Elab.async false
set_option linter.all false
set_option maxRecDepth 100000
set_option maxHeartbeats 400000
/-! ## Terms whose names stand for something -/
namespace Sl
open PySem PySem.Spec PyProof.Rows L2
/-- the term of a definition leads to something else than its own block -/
def Hdd (ns : List Str) (e : D) : Prop := (∃ y, e = mkU y ∧ y ∉ ns) ∨ (∃ x l, e = mkW x l) ∨ ∃ x b, e = mkF x b
def WfN : Nat → List Str → D → Prop
  | 0, _, _ => False
  | n + 1, xs, d => (∃ x, d = mkU x ∧ x ∈ xs) ∨ (∃ x l, d = mkW x l ∧ ∀ e ∈ l, WfN n xs e) ∨ (∃ x b, d = mkF x b ∧ WfN n (x :: xs) b) ∨
    ∃ ps b, d = mkL ps b ∧ (∀ p ∈ ps, Hdd (ps.map (·.1)) p.2 ∧ WfN n (ps.map (·.1) ++ xs) p.2) ∧ WfN n (ps.map (·.1) ++ xs) b
theorem WfN.sub : ∀ {n : Nat} {xs ys : List Str} {d : D}, WfN n xs d → (∀ x ∈ xs, x ∈ ys) → WfN n ys d
  | 0, _, _, _, h, _ => h.elim
  | n + 1, xs, ys, d, h, s => by
    rcases h with ⟨x, e, hx⟩ | ⟨x, l, e, hl⟩ | ⟨x, b, e, hb⟩ | ⟨ps, b, e, hp, hb⟩
    · exact .inl ⟨x, e, s x hx⟩
    · exact .inr (.inl ⟨x, l, e, fun u hu => (hl u hu).sub s⟩)
    · refine .inr (.inr (.inl ⟨x, b, e, hb.sub fun z hz => ?_⟩))
      rcases List.mem_cons.mp hz with rfl | hz
      · exact List.mem_cons_self
      · exact List.mem_cons_of_mem _ (s z hz)
    · have s2 : ∀ z ∈ ps.map (·.1) ++ xs, z ∈ ps.map (·.1) ++ ys := fun z hz => by
        rcases List.mem_append.mp hz with hz | hz
        · exact List.mem_append_left _ hz
        · exact List.mem_append_right _ (s z hz)
      exact .inr (.inr (.inr ⟨ps, b, e, fun p hp' => ⟨(hp p hp').1, (hp p hp').2.sub s2⟩, hb.sub s2⟩))
theorem WfN.up : ∀ {n : Nat} {xs : List Str} {d : D}, WfN n xs d → WfN (n + 1) xs d
  | 0, _, _, h => h.elim
  | n + 1, xs, d, h => by
    rcases h with ⟨x, e, hx⟩ | ⟨x, l, e, hl⟩ | ⟨x, b, e, hb⟩ | ⟨ps, b, e, hp, hb⟩
    · exact .inl ⟨x, e, hx⟩
    · exact .inr (.inl ⟨x, l, e, fun u hu => (hl u hu).up⟩)
    · exact .inr (.inr (.inl ⟨x, b, e, hb.up⟩))
    · exact .inr (.inr (.inr ⟨ps, b, e, fun p hp' => ⟨(hp p hp').1, (hp p hp').2.up⟩, hb.up⟩))
theorem WfN.le {n m : Nat} {xs : List Str} {d : D} (h : WfN n xs d) (l : n ≤ m) : WfN m xs d := by
  induction l with
  | refl => exact h
  | step _ ih => exact ih.up
/-- an open term with names of xs -/
def OpW (n : Nat) (xs : List Str) (d : D) : Prop := OpN n d ∧ WfN n xs d
theorem OpW.le {n m : Nat} {xs : List Str} {d : D} (h : OpW n xs d) (l : n ≤ m) : OpW m xs d := ⟨h.1.le l, h.2.le l⟩
theorem ow_U {n : Nat} {xs : List Str} {x : Str} (h : nmOk x = true) (hx : x ∈ xs) : OpW (n + 1) xs (mkU x) := ⟨op_U h, .inl ⟨x, rfl, hx⟩⟩
theorem ow_W {n : Nat} {xs : List Str} {x : Str} {l : List D} (h : nmOk x = true) (hl : l.length ≤ 3) (hi : ∀ e ∈ l, OpW n xs e) : OpW (n + 1) xs (mkW x l) :=
  ⟨op_W h hl fun e he => (hi e he).1, .inr (.inl ⟨x, l, rfl, fun e he => (hi e he).2⟩)⟩
theorem ow_F {n : Nat} {xs ys : List Str} {x : Str} {b : D} (h : nmOk x = true) (hb : OpW n ys b) (s : ∀ z ∈ ys, z ∈ x :: xs) : OpW (n + 1) xs (mkF x b) :=
  ⟨op_F h hb.1, .inr (.inr (.inl ⟨x, b, rfl, hb.2.sub s⟩))⟩
/-- what can be the term of a definition -/
def OpH (n : Nat) (xs ys : List Str) (d : D) : Prop := OpN n d ∧ ((∃ y, d = mkU y ∧ y ∈ ys) ∨ (WfN n xs d ∧ ((∃ x l, d = mkW x l) ∨ ∃ x b, d = mkF x b)))
theorem ow_L {n : Nat} {xs ys zs : List Str} {ps : List (Str × D)} {b : D} (h : DefOk ps) (h3 : ps.length ≤ 3) (hp : ∀ p ∈ ps, OpH n ys zs p.2) (hb : OpW n ys b) (s : ∀ z ∈ ys, z ∈ ps.map (·.1) ++ xs) (s2 : ∀ z ∈ zs, z ∈ xs ∧ z ∉ ps.map (·.1)) : OpW (n + 1) xs (mkL ps b) := by
  refine ⟨op_L h h3 (fun p q => (hp p q).1) hb.1, .inr (.inr (.inr ⟨ps, b, rfl, fun p q => ?_, hb.2.sub s⟩))⟩
  rcases (hp p q).2 with ⟨y, e, hy⟩ | ⟨w, hw⟩
  · have o := (hp p q).1
    cases n with
    | zero => exact o.elim
    | succ n => exact ⟨.inl ⟨y, e, (s2 y hy).2⟩, .inl ⟨y, e, List.mem_append_right _ (s2 y hy).1⟩⟩
  · exact ⟨.inr hw, w.sub s⟩
end Sl

set_option Elab.async false
set_option linter.all false
set_option maxRecDepth 100000
set_option maxHeartbeats 400000
namespace Sl
open PySem PySem.Spec PyProof.Rows L2
structure Ld (K : PySem.W.Frag) (mg : Str → Option Value) (fDn fBk fHd : Addr) (fdDn fdBk fdHd : FuncData) : Prop where
  FDn : Fun K "_law_drawn" "_law_drawn" sDrawn fDn fdDn
  bDn : Binds K fdDn ["_law_stream_here", "_law_deep", "_law_seen"] []
  gDn : mg "_law_drawn" = some (.ref fDn)
  FBk : Fun K "_law_block" "_law_block" sBlock fBk fdBk
  bBk : Binds K fdBk ["_law_stream_here", "_law_deep", "_law_seen"] []
  gBk : mg "_law_block" = some (.ref fBk)
  FHd : Fun K "_law_headed" "_law_headed" sHeaded fHd fdHd
  bHd : Binds K fdHd ["_law_stream_here", "_law_deep", "_law_seen", "_law_outside"] []
  gHd : mg "_law_headed" = some (.ref fHd)
def spDrawn (K : PySem.W.Frag) (n : Nat) : Sp := fun vs H Q _ => ∃ (a l : Addr) (xs : List Str), vs = [V.ref a, .int n, .ref l] ∧ Stm a H ∧ l ≠ a ∧ Sn K H l xs ∧ xs.length + 8 * n ≤ 400 ∧
  ∀ v d H', Jst a H H' → Rdd K H' v d → OpW (2 * n + 1) xs d → Q v H'
def spBlock (K : PySem.W.Frag) (n : Nat) : Sp := fun vs H Q _ => ∃ (a l : Addr) (xs : List Str), vs = [V.ref a, .int (n + 1 : Nat), .ref l] ∧ Stm a H ∧ l ≠ a ∧ Sn K H l xs ∧ xs.length + 8 * (n + 1) ≤ 400 ∧
  ∀ v d H', Jst a H H' → Rdd K H' v d → OpW (2 * n + 3) xs d → Q v H'
def spHeaded (K : PySem.W.Frag) (n : Nat) : Sp := fun vs H Q _ => ∃ (a l o : Addr) (xs ys : List Str), vs = [V.ref a, .int n, .ref l, .ref o] ∧ Stm a H ∧ l ≠ a ∧ o ≠ a ∧ Sn K H l xs ∧ Sn K H o ys ∧ ys.length ≤ 1000 ∧ xs.length + 2 + 8 * n ≤ 400 ∧
  ∀ v d H', Jst a H H' → Rdd K H' v d → OpH (2 * n + 2) xs ys d → Q v H'
theorem sqL_ex {K : PySem.W.Frag} {a l : Addr} {G G' : Hp} {xs : List V} (j : Jst a G G') (n : l ≠ a) (h : SqL K G l xs) : SqL K G' l xs := sqL_off h n j.2.2
theorem Sn.ex {K : PySem.W.Frag} {a l : Addr} {G G' : Hp} {xs : List Str} (h : Sn K G l xs) (j : Jst a G G') (n : l ≠ a) : Sn K G' l xs := ⟨j.2.2 _ _ n h.1, h.2⟩
theorem strs_at' {xs : List Str} {i : Nat} {x : V} (h : (xs.map V.str)[i]? = some x) : ∃ y, xs[i]? = some y ∧ x = .str y := by
  rw [List.getElem?_map] at h
  obtain ⟨y, h1, h2⟩ := Option.map_eq_some_iff.mp h
  exact ⟨y, h1, h2.symm⟩
theorem nm_a : nmOk "a" = true := by decide +kernel
theorem nm_b : nmOk "b" = true := by decide +kernel
theorem nm_c : nmOk "c" = true := by decide +kernel
theorem nm_x : nmOk "x" = true := by decide +kernel
theorem nm_y : nmOk "y" = true := by decide +kernel
theorem nm_z : nmOk "z" = true := by decide +kernel
theorem nm_f : nmOk "f" = true := by decide +kernel
theorem nm_g : nmOk "g" = true := by decide +kernel
theorem nm_k : nmOk "k" = true := by decide +kernel
theorem nm_m : nmOk "m" = true := by decide +kernel
theorem nm_at : nmOk "at" = true := by decide +kernel
theorem nm_pair : nmOk "pair" = true := by decide +kernel
/-- a sign and how many terms stand behind it -/
def SgOk (d : D) : Prop := ∃ (x : Str) (k : Nat), d = .tup [.str x, .int k] ∧ nmOk x = true ∧ k ≤ 3
section
variable {P : Program} {w : World} {K : PySem.W.Frag} {mg : Str → Option Value} {base : Heap} {fSt fDr fPk fMx : Addr} {fdSt fdDr fdPk fdMx : FuncData} {fDn fBk fHd : Addr} {fdDn fdBk fdHd : FuncData}
theorem gv_pair {σ : L2.St} {G : Hp} {x : Str} {i : Int} : Gv K σ G (tTup (tCons (tC (.str x)) (tCons (tC (.int i)) tNil))) (.tup [.str x, .int i]) := gv_tup (gva_cons (gv_str _) (gva_cons (gv_int _) gva_nil)) (by simp)
theorem ok_headed (n : Nat) (k : Nat) (k2 : 2 ≤ k) (GN : FnOk P w K mg base CX0 k fDn fdDn ["_law_stream_here", "_law_deep", "_law_seen"] (spDrawn K n)) (Y : Ld K mg fDn fBk fHd fdDn fdBk fdHd) (L : Lw K mg fSt fDr fPk fMx fdSt fdDr fdPk fdMx) (B : Bt mg) :
    FnOk P w K mg base CX0 (k + 1) fHd fdHd ["_law_stream_here", "_law_deep", "_law_seen", "_law_outside"] (spHeaded K n) := by
  have GD : FnOk P w K mg base CX0 1 fDr fdDr ["_law_stream_here", "_law_high"] spDraw := g_draw L B
  have GP : FnOk P w K mg base CX0 2 fPk fdPk ["_law_stream_here", "_law_items"] (spPick K) := g_pick L B
  refine Y.FHd.ok scHeaded (fun vs H Q E h => ?_) (fun cdv A outer s H vs Q E hr h => ?_)
  · obtain ⟨a, l, o, xs, ys, rfl, _⟩ := h
    rfl
  · obtain ⟨a, l, o, xs, ys, rfl, hs, hla, hoa, hl, ho, hz, hb, q⟩ := h
    have h1 := hr.mono (by omega : 1 ≤ k)
    have h2 := hr.mono k2
    refine ⟨_, (pss_cons (ps_set (i := 4) scHeaded.nd rfl (Or.inl rfl) (pe_call GD h1 (by rfl) L.gDr L.FDr.kp L.bDr .nil pass0 (pa_cons (pv 0) (pa_cons pe_int pa_nil))))
      (C8.pss_cut (ps_if (PW.pt (pw_and (pt_cmpR op_eq (pv 4) pe_int (nomark _)) (pw_and1 (pt_cmpR (op_neD hr.units) (pv 3) (pe_lst pa_nil) (nomark _)))))
        (pss_one (ps_ret (pe_tup (pa_cons pe_str (pa_cons (pe_call GP h2 (by rfl) L.gPk L.FPk.kp L.bPk .nil pass0 (pa_cons (pv 0) (pa_cons (pv 3) pa_nil))) pa_nil))))) pss_nil)
      (pss_cons (ps_if (pt_cmpR op_lt (pv 4) pe_int (nomark _))
        (pss_cons (ps_set (i := 5) scHeaded.nd rfl (Or.inl rfl) (pe_call GP h2 (by rfl) L.gPk L.FPk.kp L.bPk .nil pass0 (pa_cons (pv 0) (pa_cons (pe_lst (pa_cons pe_str (pa_cons pe_str (pa_cons pe_str pa_nil)))) pa_nil))))
        (pss_one (ps_ret (pe_tup (pa_cons pe_str (pa_cons (pv 5) (pa_cons (pe_call GN hr (by rfl) Y.gDn Y.FDn.kp Y.bDn .nil pass0 (pa_cons (pv 0) (pa_cons (pv 1) (pa_cons (pe_op op_cat (pv 2) (pe_lst (pa_cons (pv 5) (pa_cons (pv 5) pa_nil)))) pa_nil)))) pa_nil))))))) pss_nil)
      (pss_cons (ps_asg (pe_call GP h2 (by rfl) L.gPk L.FPk.kp L.bPk .nil pass0 (pa_cons (pv 0) (pa_cons (pe_lst (pa_cons (pe_tup (pa_cons pe_str (pa_cons pe_int pa_nil))) (pa_cons (pe_tup (pa_cons pe_str (pa_cons pe_int pa_nil))) (pa_cons (pe_tup (pa_cons pe_str (pa_cons pe_int pa_nil)))
          (pa_cons (pe_tup (pa_cons pe_str (pa_cons pe_int pa_nil))) (pa_cons (pe_tup (pa_cons pe_str (pa_cons pe_int pa_nil))) pa_nil)))))) pa_nil))) (pg_tup (by rfl) (pgs_cons (pg_name (i := 6) scHeaded.nd rfl (Or.inl rfl)) (pgs_cons (pg_name (i := 7) scHeaded.nd rfl (Or.inl rfl)) pgs_nil))))
      (pss_one (ps_ret (pe_tup (pa_cons pe_str (pa_cons (pv 6) (pa_cons (pe_callTy call_tuple_of (by rfl) B.tuple (by decide +kernel) (pa_cons
        (pe_lc (own := [("_law_turn", 8)]) (g := gName 8) (tt := tYes) (te := tCall (spDrawn K n) [] E0 (tCons (tVar 0) (tCons (tVar 1) (tCons (tVar 2) tNil)))) rfl scHeaded.nd (pi_range1 (by rfl) B.range (pa_cons (pv 7) pa_nil))
          (blkOk_by (own := [("_law_turn", 8)]) (N := ["_law_stream_here", "_law_deep", "_law_seen", "_law_outside", "_law_way", "_law_name_here", "_law_sign", "_law_size", "_law_turn"]) (sc := defScope sHeaded) (by decide +kernel))
          (fun _ _ _ _ _ => pg_name (i := 8) scHeaded.nd rfl (Or.inl rfl)) (fun _ _ _ _ _ => pts_nil)
          (fun _ _ _ _ _ => by exact pe_call GN hr (by rfl) Y.gDn Y.FDn.kp Y.bDn .nil pass0 (pa_cons (pv 0) (pa_cons (pv 1) (pa_cons (pv 2) pa_nil))))) pa_nil)) pa_nil)))))))))), ?_⟩
    refine ⟨.ref a, rfl, a, 8, rfl, hs, by decide, small_big (by decide), fun r H1 r0 r1 o1 hs1 => ?_⟩
    have j1 : Jst a H H1 := ⟨hs, hs1, o1⟩
    have hl1 := hl.ex j1 hla
    have ho1 := ho.ex j1 hoa
    refine ⟨fun σ' H' => σ' = [some (.ref a), some (.int n), some (.ref l), some (.ref o), some (.int r), none, none, none, none] ∧ Jst a H H', ?_, ?_⟩
    · refine ⟨.int r, rfl, rfl, _, rfl, ite2 (fun e => ?_) (fun e => ⟨rfl, j1⟩)⟩
      refine ⟨.ref o, rfl, (by show 0 ≤ sizeLine; decide), fun p np => ?_⟩
      have s2 := Same.new (o := .lst []) np
      have hp : (upd H1 p (.lst [])) p = some (.lst []) := upd_same
      generalize upd H1 p (.lst []) = H2 at s2 hp ⊢
      have j2 := j1.trans (.same hs1 s2)
      have ho2 := ho.ex j2 hoa
      refine ne_nil ho.2 (SqL.of ho2.1) (SqL.of hp) ⟨_, rfl, ite2 (fun e2 => ?_) (fun e2 => ⟨rfl, j2⟩)⟩
      have ne : 1 ≤ ys.length := by
        cases ys with
        | nil => cases e2
        | cons y ys => simp
      refine ⟨.ref a, rfl, .ref o, rfl, a, o, _, rfl, j2.2.1, hoa, SqL.of ho2.1, by rw [List.length_map]; exact ne, by rw [List.length_map]; omega, fun i x H3 hx o3 hs3 => ?_⟩
      obtain ⟨y, hy, rfl⟩ := strs_at' hx
      have j3 : Jst a H H3 := j2.trans ⟨j2.2.1, hs3, o3⟩
      refine ⟨(by show 2 ≤ sizeLine; decide), fun t nt => ?_⟩
      have st := Same.new (o := .tup [V.str "name", .str y]) nt
      exact q _ (mkU y) _ (j3.trans (.same hs3 st)) (tup_val upd_same (.cons (.str _) (.cons (.str _) .nil)) (by simp)) ⟨op_U (n := 2 * n + 1) (ho.2 y (List.mem_of_getElem? hy)), .inl ⟨y, rfl, List.mem_of_getElem? hy⟩⟩
    · rintro σ' H2 ⟨rfl, j2⟩
      have hl2 := hl.ex j2 hla
      have hs2 := j2.2.1
      refine ⟨.int r, rfl, _, _, rfl, rfl, _, rfl, ite2 (fun e => ?_) (fun e => ?_)⟩
      · refine ⟨.ref a, rfl, pick_gv (G := H2) (gva_cons (gv_str "a") (gva_cons (gv_str "b") (gva_cons (gv_str "c") gva_nil))) (Same.refl _) hs2 (by decide) (by decide) fun x d H3 hd j3 rd => ?_⟩
        obtain ⟨y, rfl, hy⟩ : ∃ y, d = .str y ∧ nmOk y = true := by
          simp only [List.mem_cons, List.not_mem_nil, or_false] at hd
          rcases hd with rfl | rfl | rfl
          · exact ⟨_, rfl, nm_a⟩
          · exact ⟨_, rfl, nm_b⟩
          · exact ⟨_, rfl, nm_c⟩
        cases rd
        have hl3 := hl2.ex j3 hla
        refine ⟨_, rfl, .ref a, rfl, .int n, rfl, .ref l, rfl, _, rfl, _, rfl, (by show 2 ≤ sizeLine; decide), fun p np => ?_⟩
        have s4 := Same.new (o := .lst [V.str y, .str y]) np
        have hp : (upd H3 p (.lst [V.str y, .str y])) p = some (.lst [V.str y, .str y]) := upd_same
        generalize upd H3 p (.lst [V.str y, .str y]) = H4 at s4 hp ⊢
        have hs4 := j3.2.1.same s4
        have sl := sizeLine_eq
        refine ⟨l, p, xs.map V.str, [V.str y, .str y], rfl, rfl, s4 _ _ hl3.1, hp, by rw [List.length_map]; simp; omega, fun p2 np2 => ?_⟩
        have s5 := Same.new (o := .lst (xs.map V.str ++ [V.str y, .str y])) np2
        have hp2 : (upd H4 p2 (.lst (xs.map V.str ++ [V.str y, .str y]))) p2 = some (.lst (xs.map V.str ++ [V.str y, .str y])) := upd_same
        generalize upd H4 p2 (.lst (xs.map V.str ++ [V.str y, .str y])) = H5 at s5 hp2 ⊢
        have e2 : xs.map V.str ++ [V.str y, .str y] = (xs ++ [y, y]).map V.str := by rw [List.map_append] <;> rfl
        rw [e2] at hp2
        have hs5 := hs4.same s5
        have j5 : Jst a H H5 := (j2.trans j3).trans ((Jst.same j3.2.1 s4).trans (.same hs4 s5))
        refine ⟨a, p2, xs ++ [y, y], rfl, hs5, hs4.ne np2, ⟨hp2, fun z hz => ?_⟩, by rw [List.length_append]; simp; omega, fun v d H6 j6 rv ov => ?_⟩
        · rcases List.mem_append.mp hz with hz | hz
          · exact hl.2 z hz
          · simp only [List.mem_cons, List.not_mem_nil, or_false] at hz
            rcases hz with rfl | rfl <;> exact hy
        · refine ⟨(by show 3 ≤ sizeLine; decide), fun t nt => ?_⟩
          have st := Same.new (o := .tup [V.str "fun", .str y, v]) nt
          exact q _ (mkF y d) _ ((j5.trans j6).trans (.same j6.2.1 st)) (tup_val upd_same (.cons (.str _) (.cons (.str _) (.cons (Rdd.ex (.same st) _ rv) .nil))) (by simp)) (by
            have w := ow_F (xs := xs) hy ov fun z hz => by
              rcases List.mem_append.mp hz with hz | hz
              · exact List.mem_cons_of_mem _ hz
              · simp only [List.mem_cons, List.not_mem_nil, or_false, or_self] at hz
                rw [hz]
                exact List.mem_cons_self
            exact ⟨w.1, .inr ⟨w.2, .inr ⟨y, d, rfl⟩⟩⟩)
      · refine ⟨.ref a, rfl, pick_gv (G := H2) (gva_cons gv_pair (gva_cons gv_pair (gva_cons gv_pair (gva_cons gv_pair (gva_cons gv_pair gva_nil))))) (Same.refl _) hs2 (by simp) (by simp) fun x d H3 hd j3 rd => ?_⟩
        obtain ⟨y, m, rfl, hy, hm⟩ : SgOk d := by
          simp only [List.mem_cons, List.not_mem_nil, or_false] at hd
          rcases hd with rfl | rfl | rfl | rfl | rfl
          · exact ⟨_, 1, rfl, nm_f, by decide⟩
          · exact ⟨_, 2, rfl, nm_at, by decide⟩
          · exact ⟨_, 2, rfl, nm_at, by decide⟩
          · exact ⟨_, 2, rfl, nm_pair, by decide⟩
          · exact ⟨_, 0, rfl, nm_k, by decide⟩
        obtain ⟨t, us, rfl, ht, hus, _⟩ := rd.tupd'
        obtain ⟨u1, u2, rfl, r1, r2⟩ := hus.pair
        cases r1
        cases r2
        have hl3 := hl2.ex j3 hla
        have hs3 := j3.2.1
        refine ⟨t, _, rfl, ht, rfl, _, _, rfl, _, _, rfl, rfl, ?_⟩
        refine ⟨_, rfl, .int m, rfl, (m : Int), rfl, by omega, by omega, fun D0 nD => ?_⟩
        refine lcJR (K := K) (J := Jst a) (Pd := fun _ d => OpW (2 * n + 1) xs d) (jr_st a) (.refl hs3) (by omega) nD ?_ ?_
        · intro i H4 Q4 Z4 _ j4 hQ
          refine ⟨rfl, ?_⟩
          refine iteT (B := Z4 H4) ⟨.ref a, rfl, .int n, rfl, .ref l, rfl, a, l, xs, rfl, j4.2.1, hla, hl3.ex j4 hla, by omega, fun v d H5 j5 rv ov => hQ v H5 d j5 rv ov⟩
        · intro H4 zs ds j4 hD rz lz hds
          have ld : ds.length ≤ 3 := by omega
          refine ⟨D0, zs, rfl, .inl ⟨SqL.of hD, fun t1 n1 => ?_⟩⟩
          have s5 := Same.new (o := .tup zs) n1
          have h5 : (upd H4 t1 (.tup zs)) t1 = some (.tup zs) := upd_same
          generalize upd H4 t1 (.tup zs) = H5 at s5 h5 ⊢
          refine ⟨(by show 3 ≤ sizeLine; decide), fun t2 n2 => ?_⟩
          have s6 := Same.new (o := .tup [V.str "word", .str y, .ref t1]) n2
          have j6 : Jst a H (upd H5 t2 (.tup [V.str "word", .str y, .ref t1])) := (j2.trans j3).trans (j4.trans (.same j4.2.1 (s5.trans s6)))
          have r1 : Rdd K (upd H5 t2 (.tup [V.str "word", .str y, .ref t1])) (.ref t1) (.tup ds) := tup_val (s6 _ _ h5) (RddAll.ex (.same (s5.trans s6)) _ rz) (by omega)
          exact q _ (mkW y ds) _ j6 (tup_val upd_same (.cons (.str _) (.cons (.str _) (.cons r1 .nil))) (by simp)) (by
            have w := ow_W (xs := xs) hy ld fun e he => by
              obtain ⟨i, hi, rfl⟩ := List.getElem_of_mem he
              exact hds i _ (List.getElem?_eq_getElem hi)
            exact ⟨w.1, .inr ⟨w.2, .inl ⟨y, ds, rfl⟩⟩⟩)
end
end Sl

set_option Elab.async false
set_option linter.all false
set_option maxRecDepth 100000
set_option maxHeartbeats 400000
namespace Sl
open PySem PySem.Spec PyProof.Rows L2
theorem cutTo' (xs : List V) (k : Nat) : cutV xs none (some (k : Int)) = xs.take k := by
  unfold cutV
  rw [HT.sIx_none, HT.sIx_nat, List.drop_zero, Nat.sub_zero]
  by_cases h : k ≤ xs.length
  · rw [Nat.min_eq_left h]
  · rw [Nat.min_eq_right (by omega), List.take_length, List.take_of_length_le (by omega)]
def blkN : List Str := ["x", "y", "z", "a"]
theorem blkN_ok : ∀ x ∈ blkN, nmOk x = true := by
  intro x hx
  simp only [blkN, List.mem_cons, List.not_mem_nil, or_false] at hx
  rcases hx with rfl | rfl | rfl | rfl
  · exact nm_x
  · exact nm_y
  · exact nm_z
  · exact nm_a
theorem blkN_nd : blkN.Nodup := by decide +kernel
theorem fm_outside (p : Str → Bool) : ∀ xs : List Str, (xs.map fun x => if p x = true then some (V.str x) else none).filterMap id = (xs.filter p).map V.str
  | [] => rfl
  | x :: xs => by
    rw [List.map_cons, List.filter_cons]
    by_cases h : p x = true
    · rw [if_pos h, if_pos h, List.map_cons, ← fm_outside p xs]
      rfl
    · rw [if_neg h, if_neg h, ← fm_outside p xs]
      rfl
theorem inV_strs (x : Str) (ys : List Str) : inV (.str x) (ys.map V.str) = decide (x ∈ ys) := by
  unfold inV
  induction ys with
  | nil => rfl
  | cons y ys ih =>
    rw [List.map_cons, List.any_cons, ih]
    show ((y == x) || _) = _
    by_cases e : y = x
    · rw [e, beq_self_eq_true, Bool.true_or, decide_eq_true List.mem_cons_self]
    · rw [beq_eq_false_iff_ne.mpr e, Bool.false_or]
      exact decide_eq_decide.mpr ⟨fun h => List.mem_cons_of_mem _ h, fun h => (List.mem_cons.mp h).resolve_left fun z => e z.symm⟩
theorem sub1 (n : Nat) : V.int (((n + 1 : Nat) : Int) - 1) = V.int n := by rw [show ((n + 1 : Nat) : Int) - 1 = (n : Int) by omega]
def vStr : V → Str
  | .str x => x
  | _ => ""
theorem strs_perm {ys : List V} {xs : List Str} (h : ys.Perm (xs.map V.str)) : ∃ zs : List Str, ys = zs.map V.str ∧ zs.Perm xs := by
  refine ⟨ys.map vStr, ?_, ?_⟩
  · have : ∀ l : List V, (∀ y ∈ l, ∃ x, y = V.str x) → l = (l.map vStr).map V.str := by
      intro l
      induction l with
      | nil => exact fun _ => rfl
      | cons y l ih =>
        intro hl
        obtain ⟨x, rfl⟩ := hl y List.mem_cons_self
        rw [List.map_cons, List.map_cons, ← ih fun z hz => hl z (List.mem_cons_of_mem _ hz)]
        rfl
    refine this ys fun y hy => ?_
    obtain ⟨x, _, rfl⟩ := List.mem_map.mp (h.mem_iff.mp hy)
    exact ⟨x, rfl⟩
  · have p := h.map vStr
    rw [List.map_map] at p
    have e : (vStr ∘ V.str) = id := rfl
    rw [e, List.map_id] at p
    exact p
theorem strs_of {K : PySem.W.Frag} {H : Hp} : ∀ {vs : List V} {xs : List Str}, RddAll K H vs (xs.map D.str) → vs = xs.map V.str
  | _, [], h => by
    cases h
    rfl
  | _, x :: xs, h => by
    cases h with
    | cons h1 h2 =>
      cases h1
      rw [strs_of h2]
      rfl
section
variable {P : Program} {w : World} {K : PySem.W.Frag} {mg : Str → Option Value} {base : Heap} {fSt fDr fPk fMx : Addr} {fdSt fdDr fdPk fdMx : FuncData} {fDn fBk fHd : Addr} {fdDn fdBk fdHd : FuncData}
theorem ok_block (n : Nat) (k : Nat) (k2 : 2 ≤ k) (GN : FnOk P w K mg base CX0 k fDn fdDn ["_law_stream_here", "_law_deep", "_law_seen"] (spDrawn K n)) (Y : Ld K mg fDn fBk fHd fdDn fdBk fdHd) (L : Lw K mg fSt fDr fPk fMx fdSt fdDr fdPk fdMx) (B : Bt mg) :
    FnOk P w K mg base CX0 (k + 2) fBk fdBk ["_law_stream_here", "_law_deep", "_law_seen"] (spBlock K n) := by
  have GD : FnOk P w K mg base CX0 1 fDr fdDr ["_law_stream_here", "_law_high"] spDraw := g_draw L B
  have GM : FnOk P w K mg base CX0 2 fMx fdMx ["_law_stream_here", "_law_items"] (spMixed K) := ok_mixed L B
  have GH : FnOk P w K mg base CX0 (k + 1) fHd fdHd ["_law_stream_here", "_law_deep", "_law_seen", "_law_outside"] (spHeaded K n) := ok_headed n k k2 GN Y L B
  refine Y.FBk.ok scBlock (fun vs H Q E h => ?_) (fun cdv A outer s H vs Q E hr h => ?_)
  · obtain ⟨a, l, xs, rfl, _⟩ := h
    rfl
  · obtain ⟨a, l, xs, rfl, hs, hla, hl, hb, q⟩ := h
    have h1 := hr.mono (by omega : 1 ≤ k + 1)
    have h2 := hr.mono (by omega : 2 ≤ k + 1)
    have hk := hr.mono (by omega : k ≤ k + 1)
    refine ⟨_, (pss_cons (ps_set (i := 3) scBlock.nd rfl (Or.inr rfl) (pe_slice sl_list (pe_call GM h2 (by rfl) L.gMx L.FMx.kp L.bMx .nil pass0 (pa_cons (pv 0) (pa_cons (pe_lst (pa_cons pe_str (pa_cons pe_str (pa_cons pe_str (pa_cons pe_str pa_nil))))) pa_nil))) po_none (po_some (pe_op op_add pe_int (pe_call GD h1 (by rfl) L.gDr L.FDr.kp L.bDr .nil pass0 (pa_cons (pv 0) (pa_cons pe_int pa_nil)))))))
      (pss_cons (ps_par (i := 4) (j := 5) (by rfl) scBlock.nd rfl rfl (by decide) rfl rfl (pa_cons (pe_op op_cat (pe_op op_cat (pv 2) (pv 3)) (pv 3)) (pa_cons (pe_lst pa_nil) pa_nil)) (by rfl))
      (pss_cons (ps_for PassesOwn.never rfl (pi_list (pv 3)) (pg_name (i := 6) scBlock.nd rfl (Or.inl rfl))
        (pss_one (ps_expr (pe_bm PySem.F.plainAttrs_list PySem.F.slot_list_append PySem.F.type_list_append mt_append (pv 5) (pa_cons (pe_tup (pa_cons (pv 6) (pa_cons (pe_call GH hr (by rfl) Y.gHd Y.FHd.kp Y.bHd .nil pass0 (pa_cons (pv 0) (pa_cons (pe_op op_sub (pv 1) pe_int) (pa_cons (pv 4) (pa_cons
          (pe_lc (own := [("_law_one", 7)]) (g := gName 7) (tt := tTest (tOp (rIn K true) (tVar 7) (tVar 3))) (te := tVar 7) rfl scBlock.nd (pi_list (pv 2)) (blkOk_by (own := [("_law_one", 7)]) (N := ["_law_stream_here", "_law_deep", "_law_seen", "_law_names", "_law_inner_here", "_law_rows", "_law_name_here", "_law_one"]) (sc := defScope sBlock) (by decide +kernel))
            (fun _ _ _ _ _ => pg_name (i := 7) scBlock.nd rfl (Or.inl rfl)) (fun _ _ _ _ _ => pts_one (by exact pt_cmpR op_notIn_seq (pv 7) (pv 3) (by rfl))) (fun _ _ _ _ _ => by exact pv 7)) pa_nil))))) pa_nil))) pa_nil)))))
      (pss_one (ps_ret (pe_tup (pa_cons pe_str (pa_cons (pe_callTy call_tuple_of (by rfl) B.tuple (by decide +kernel) (pa_cons (pv 5) pa_nil)) (pa_cons (pe_call GN hk (by rfl) Y.gDn Y.FDn.kp Y.bDn .nil pass0 (pa_cons (pv 0) (pa_cons (pe_op op_sub (pv 1) pe_int) (pa_cons (pv 4) pa_nil)))) pa_nil))))))))), ?_⟩
    refine ⟨.ref a, rfl, lst_gv (K := K) (G := H) (ds := blkN.map D.str) (gva_cons (gv_str "x") (gva_cons (gv_str "y") (gva_cons (gv_str "z") (gva_cons (gv_str "a") gva_nil)))) (Same.refl _) (by decide) fun p0 vs H1 np0 s1 hp0 rv => ?_⟩
    have ev := strs_of rv
    subst ev
    refine ⟨a, p0, blkN.map V.str, rfl, hs.same s1, hs.ne np0, SqL.of hp0, by decide, fun ys p1 H2 hperm np1 j2 hp1 => ?_⟩
    obtain ⟨zs, rfl, hz⟩ := strs_perm hperm
    have j2 : Jst a H H2 := (Jst.same hs s1).trans j2
    have hs1 := hs.same s1
    refine ⟨.ref a, rfl, a, 3, rfl, j2.2.1, by decide, small_big (by decide), fun r H3 r0 r1 o3 hs3 => ⟨_, _, rfl, rfl, 1 + r, rfl, p1, zs.map V.str, rfl, SqL.of (o3 _ _ (hs1.ne np1) hp1), fun p2 np2 => ?_⟩⟩
    obtain ⟨m, hm⟩ : ∃ m : Nat, 1 + r = (m : Int) := ⟨(1 + r).toNat, by omega⟩
    rw [hm, cutTo', ← List.map_take]
    have hlz : zs.length = 4 := hz.length_eq
    have hmn : 1 ≤ m ∧ m ≤ 3 := by omega
    generalize hnames : zs.take m = names
    have ln : names.length = m := by rw [← hnames, List.length_take]; omega
    have okn : ∀ x ∈ names, nmOk x = true := fun x hx => by
      rw [← hnames] at hx
      exact blkN_ok x (hz.mem_iff.mp (List.mem_of_mem_take hx))
    have ndn : names.Nodup := by
      rw [← hnames]
      exact ((hz.nodup_iff).mpr blkN_nd).sublist (List.take_sublist m zs)
    have j3 : Jst a H H3 := j2.trans ⟨j2.2.1, hs3, o3⟩
    have s4 := Same.new (o := .lst (names.map V.str)) np2
    have hp2 : (upd H3 p2 (.lst (names.map V.str))) p2 = some (.lst (names.map V.str)) := upd_same
    have n2a := hs3.ne np2
    generalize upd H3 p2 (.lst (names.map V.str)) = H4 at s4 hp2 ⊢
    have hs4 := hs3.same s4
    have j4 := j3.trans (.same hs3 s4)
    have hl4 := hl.ex j4 hla
    have sl := sizeLine_eq
    refine ⟨.ref l, rfl, .ref p2, rfl, l, p2, _, _, rfl, rfl, hl4.1, hp2, by rw [List.length_map, List.length_map]; omega, fun p3 np3 => ?_⟩
    have s5 := Same.new (o := .lst (xs.map V.str ++ names.map V.str)) np3
    have hp3 : (upd H4 p3 (.lst (xs.map V.str ++ names.map V.str))) p3 = some (.lst (xs.map V.str ++ names.map V.str)) := upd_same
    generalize upd H4 p3 (.lst (xs.map V.str ++ names.map V.str)) = H5 at s5 hp3 ⊢
    refine ⟨.ref p2, rfl, p3, p2, _, _, rfl, rfl, hp3, s5 _ _ hp2, by rw [List.length_append, List.length_map, List.length_map]; omega, fun p4 np4 => ?_⟩
    have e4 : xs.map V.str ++ names.map V.str ++ names.map V.str = (xs ++ names ++ names).map V.str := by rw [List.map_append, List.map_append]
    rw [e4]
    generalize hinner : xs ++ names ++ names = inner
    have li : inner.length ≤ xs.length + 6 := by rw [← hinner, List.length_append, List.length_append]; omega
    have oki : ∀ x ∈ inner, nmOk x = true := fun x hx => by
      rw [← hinner] at hx
      rcases List.mem_append.mp hx with hx | hx
      · rcases List.mem_append.mp hx with hx | hx
        · exact hl.2 x hx
        · exact okn x hx
      · exact okn x hx
    have s6 := Same.new (o := .lst (inner.map V.str)) np4
    have hp4 : (upd H5 p4 (.lst (inner.map V.str))) p4 = some (.lst (inner.map V.str)) := upd_same
    have hs5 := hs4.same s5
    have n4a := hs5.ne np4
    generalize upd H5 p4 (.lst (inner.map V.str)) = H6 at s6 hp4 ⊢
    have hs6 := hs5.same s6
    refine ⟨(by show 0 ≤ sizeLine; decide), fun p5 np5 => ⟨_, _, rfl, ?_⟩⟩
    have n5a := hs6.ne np5
    have s7 := Same.new (o := .lst []) np5
    have hp5 : (upd H6 p5 (.lst [])) p5 = some (.lst []) := upd_same
    have n25 : p2 ≠ p5 := ne_of_none (s6 _ _ (s5 _ _ hp2)) np5
    have n45 : p4 ≠ p5 := ne_of_none hp4 np5
    have nl5 : l ≠ p5 := ne_of_none (s6 _ _ (s5 _ _ hl4.1)) np5
    have fresh5 : H p5 = none := (j4.trans ((Jst.same hs4 s5).trans (.same hs5 s6))) |> fun j => by
      cases e : H p5 with
      | none => rfl
      | some o =>
        have := j.2.2 _ _ n5a e
        rw [np5] at this
        cases this
    generalize upd H6 p5 (.lst []) = H7 at s7 hp5 ⊢
    have s47 := (s5.trans s6).trans s7
    have j7 : Jst a H H7 := j4.trans (.same hs4 s47)
    refine ⟨.ref p2, rfl, p2, rfl, ⟨_, SqL.of (s47 _ _ hp2)⟩, for_list (K := K) (xs := names.map V.str) (fun i σ' H' => ∃ y zs ps, σ' = [some (.ref a), some (.int (n + 1 : Nat)), some (.ref l), some (.ref p2), some (.ref p4), some (.ref p5), y, none] ∧ Jst a H H' ∧ H' p2 = some (.lst (names.map V.str)) ∧ H' p4 = some (.lst (inner.map V.str)) ∧
      H' p5 = some (.lst zs) ∧ RddAll K H' zs (mkPs ps) ∧ ps.map (·.1) = names.take i ∧ ∀ p ∈ ps, OpH (2 * n + 2) inner (xs.filter fun x => !decide (x ∈ names)) p.2) ⟨none, [], [], rfl, j7, s47 _ _ hp2, s7 _ _ hp4, hp5, .nil, rfl, fun p hp => by cases hp⟩ ?_ ?_ ?_⟩
    · rintro i σ' H' _ ⟨y, zs, ps, rfl, j, h2, _⟩
      exact SqL.of h2
    · rintro i x σ' H' hx ⟨y, zs, ps, rfl, j, h2, h4, h5, rz, en, op⟩
      obtain ⟨nm, hnm, rfl⟩ := strs_at' hx
      have hl' := hl.ex j hla
      have lz := rz.length
      have lm : (mkPs ps).length = ps.length := List.length_map ..
      have lps : ps.length ≤ 3 := by
        have := congrArg List.length en
        rw [List.length_map, List.length_take] at this
        omega
      refine ⟨.ref p5, rfl, .inl ⟨rfl, _, SqL.of h5⟩, _, rfl, .ref a, rfl, .int (n + 1 : Nat), rfl, _, _, rfl, rfl, .ref p4, rfl, .ref l, rfl, l, rfl, ⟨_, SqL.of hl'.1⟩, fun D0 nD => ?_⟩
      refine lcL (xs.map fun x => if (!decide (x ∈ names)) = true then some (V.str x) else none) (by rw [List.length_map, List.length_map]) (by rw [List.length_map]; omega) (SqL.of hl'.1) nD ?_ ?_
      · intro i2 x2 H8 Q8 Z8 hx2 s8 hY hN
        obtain ⟨y2, hy2, rfl⟩ := strs_at' hx2
        refine ⟨rfl, _, rfl, .ref p2, rfl, p2, names.map V.str, rfl, .inl (SqL.of (s8 _ _ h2)), rfl, flat_strs names, ⟨_, rfl, ?_⟩⟩
        rw [if_pos rfl, inV_strs]
        refine ite2 (fun e => ?_) (fun e => ?_)
        · exact ⟨_, rfl, hY _ _ (by rw [List.getElem?_map, hy2]; exact congrArg some (if_pos e)) (Same.refl _)⟩
        · exact hN _ (by rw [List.getElem?_map, hy2]; exact congrArg some (if_neg e)) (Same.refl _)
      · intro H8 s8 hD8
        rw [fm_outside (fun x => !decide (x ∈ names))] at hD8
        have hs' := j.2.1
        have da := hs'.ne nD
        have fl := List.length_filter_le (fun x => !decide (x ∈ names)) xs
        refine ⟨a, p4, D0, inner, xs.filter fun x => !decide (x ∈ names), by show [V.ref a, V.int (((n + 1 : Nat) : Int) - 1), V.ref p4, V.ref D0] = _; rw [sub1], hs'.same s8, n4a, da, ⟨s8 _ _ h4, oki⟩, ⟨hD8, fun x hx => hl.2 x (List.mem_filter.mp hx).1⟩, by omega, by omega, fun v d H9 j9 rv ov => ?_⟩
        refine ⟨(by show 2 ≤ sizeLine; decide), fun t nt => ?_⟩
        have st := Same.new (o := .tup [V.str nm, v]) nt
        have ht : (upd H9 t (.tup [V.str nm, v])) t = some (.tup [V.str nm, v]) := upd_same
        generalize upd H9 t (.tup [V.str nm, v]) = Ha at st ht ⊢
        have j10 : Jst a H' Ha := (Jst.same hs' s8).trans (j9.trans (.same j9.2.1 st))
        have k5 := j10.2.2 _ _ n5a h5
        refine ⟨p5, zs, _, rfl, rfl, k5, by omega, ?_⟩
        have rt : Rdd K Ha (.ref t) (.tup [.str nm, d]) := tup_val ht (.cons (.str _) (.cons (Rdd.ex (.same st) _ rv) .nil)) (by simp)
        have ex : Ex Ha (upd Ha p5 (.lst (zs ++ [.ref t]))) := (Off.put (a := p5)).ex k5 upd_same
        refine ⟨_, _, ps ++ [(nm, d)], rfl, (jr_st a).put (j.trans j10) fresh5, by rw [upd_ne n25]; exact j10.2.2 _ _ n2a h2, by rw [upd_ne n45]; exact j10.2.2 _ _ n4a h4, upd_same, ?_, ?_, fun p hp => ?_⟩
        · have e : mkPs (ps ++ [(nm, d)]) = mkPs ps ++ [.tup [.str nm, d]] := List.map_append ..
          rw [e]
          exact (RddAll.ex ex _ (RddAll.ex ((jr_st a).ex j10) _ rz)).snoc (Rdd.ex ex _ rt)
        · rw [List.map_append, en, List.take_add_one, hnm]
          rfl
        · rcases List.mem_append.mp hp with hp | hp
          · exact op p hp
          · rw [List.mem_singleton.mp hp]
            exact ov
    · rintro σ' H' ⟨y, zs, ps, rfl, j, h2, h4, h5, rz, en, op⟩
      rw [List.length_map, List.take_length] at en
      have lz := rz.length
      have lps : ps.length = names.length := by
        have := congrArg List.length en
        rwa [List.length_map] at this
      have lm : (mkPs ps).length = ps.length := List.length_map ..
      have hd : DefOk ps := by
        refine ⟨by omega, by omega, fun p hp => okn _ (by rw [← en]; exact List.mem_map.mpr ⟨p, hp, rfl⟩), by rw [en]; exact ndn⟩
      have hs' := j.2.1
      refine ⟨.ref p5, rfl, p5, zs, rfl, .inl ⟨SqL.of h5, fun t nt => ?_⟩⟩
      have st := Same.new (o := .tup zs) nt
      have ht : (upd H' t (.tup zs)) t = some (.tup zs) := upd_same
      have ta := hs'.ne nt
      generalize upd H' t (.tup zs) = H8 at st ht ⊢
      refine ⟨.ref a, rfl, .int (n + 1 : Nat), rfl, _, _, rfl, rfl, .ref p4, rfl, a, p4, inner, by show [V.ref a, V.int (((n + 1 : Nat) : Int) - 1), V.ref p4] = _; rw [sub1], hs'.same st, n4a, ⟨st _ _ h4, oki⟩, by omega, fun v d H9 j9 rv ov => ?_⟩
      refine ⟨(by show 3 ≤ sizeLine; decide), fun m nm => ?_⟩
      have sm := Same.new (o := .tup [V.str "let", .ref t, v]) nm
      have hm : (upd H9 m (.tup [V.str "let", .ref t, v])) m = some (.tup [V.str "let", .ref t, v]) := upd_same
      generalize upd H9 m (.tup [V.str "let", .ref t, v]) = Ha at sm hm ⊢
      have j9a : Jst a H8 Ha := j9.trans (.same j9.2.1 sm)
      have j8a : Jst a H' Ha := (Jst.same hs' st).trans j9a
      have r1 : Rdd K Ha (.ref t) (.tup (mkPs ps)) := tup_val (j9a.2.2 _ _ ta ht) (RddAll.ex ((jr_st a).ex j8a) _ rz) (by omega)
      exact q _ (mkL ps d) _ (j.trans j8a) (tup_val hm (.cons (.str _) (.cons r1 (.cons (Rdd.ex (.same sm) _ rv) .nil))) (by simp)) (by
        refine ow_L hd (by omega) (fun p hp => op p hp) (ov.le (by omega)) (fun z hz => ?_) (fun z hz => ?_)
        · rw [← hinner] at hz
          rw [en]
          rcases List.mem_append.mp hz with hz | hz
          · rcases List.mem_append.mp hz with hz | hz
            · exact List.mem_append_right _ hz
            · exact List.mem_append_left _ hz
          · exact List.mem_append_left _ hz
        · obtain ⟨h1, h2⟩ := List.mem_filter.mp hz
          rw [en]
          exact ⟨h1, by simpa using h2⟩)
end
end Sl

set_option Elab.async false
set_option linter.all false
set_option maxRecDepth 100000
set_option maxHeartbeats 400000
namespace Sl
open PySem PySem.Spec PyProof.Rows L2
section
variable {P : Program} {w : World} {K : PySem.W.Frag} {mg : Str → Option Value} {base : Heap} {fSt fDr fPk fMx : Addr} {fdSt fdDr fdPk fdMx : FuncData} {fDn fBk fHd : Addr} {fdDn fdBk fdHd : FuncData}
/-- the empty promise -/
theorem ok_false {k : Nat} {f : Addr} {fd : FuncData} {ps : List Str} {CX : CXT} : FnOk P w K mg base CX k f fd ps (fun _ _ _ _ => False) :=
  ⟨fun _ _ _ _ h => h.elim, fun _ _ _ _ _ _ _ _ _ _ _ _ _ h => h.elim⟩
theorem ok_drawn (n : Nat) (k : Nat) (k2 : 2 ≤ k) {spN spB : Sp} (GN : FnOk P w K mg base CX0 k fDn fdDn ["_law_stream_here", "_law_deep", "_law_seen"] spN) (GB : FnOk P w K mg base CX0 (k + 2) fBk fdBk ["_law_stream_here", "_law_deep", "_law_seen"] spB)
    (hN : ∀ m, n = m + 1 → spN = spDrawn K m) (hB : ∀ m, n = m + 1 → spB = spBlock K m) (Y : Ld K mg fDn fBk fHd fdDn fdBk fdHd) (L : Lw K mg fSt fDr fPk fMx fdSt fdDr fdPk fdMx) (B : Bt mg) :
    FnOk P w K mg base CX0 (k + 3) fDn fdDn ["_law_stream_here", "_law_deep", "_law_seen"] (spDrawn K n) := by
  have GD : FnOk P w K mg base CX0 1 fDr fdDr ["_law_stream_here", "_law_high"] spDraw := g_draw L B
  have GP : FnOk P w K mg base CX0 2 fPk fdPk ["_law_stream_here", "_law_items"] (spPick K) := g_pick L B
  refine Y.FDn.ok scDrawn (fun vs H Q E h => ?_) (fun cdv A outer s H vs Q E hr h => ?_)
  · obtain ⟨a, l, xs, rfl, _⟩ := h
    rfl
  · obtain ⟨a, l, xs, rfl, hs, hla, hl, hb, q⟩ := h
    have h1 := hr.mono (by omega : 1 ≤ k + 2)
    have h2 := hr.mono (by omega : 2 ≤ k + 2)
    have hk := hr.mono (by omega : k ≤ k + 2)
    refine ⟨_, (pss_cons (ps_set (i := 3) scDrawn.nd rfl (Or.inl rfl) (pe_call GD h1 (by rfl) L.gDr L.FDr.kp L.bDr .nil pass0 (pa_cons (pv 0) (pa_cons pe_int pa_nil))))
      (C8.pss_cut (ps_if (PW.pt (pw_and (pt_cmpR (op_neD hr.units) (pv 2) (pe_lst pa_nil) (nomark _)) (pw_and1 (PW.pt (pw_or (pt_cmpR op_lt (pv 1) pe_int (nomark _)) (pw_or1 (pt_cmpR op_lt (pv 3) pe_int (nomark _))))))))
        (pss_one (ps_ret (pe_tup (pa_cons pe_str (pa_cons (pe_call GP h2 (by rfl) L.gPk L.FPk.kp L.bPk .nil pass0 (pa_cons (pv 0) (pa_cons (pv 2) pa_nil))) pa_nil))))) pss_nil)
      (pss_cons (ps_if (PW.pt (pw_or (pt_cmpR op_lt (pv 1) pe_int (nomark _)) (pw_or1 (pt_cmpR op_lt (pv 3) pe_int (nomark _)))))
        (pss_one (ps_ret (pe_tup (pa_cons pe_str (pa_cons (pe_call GP h2 (by rfl) L.gPk L.FPk.kp L.bPk .nil pass0 (pa_cons (pv 0) (pa_cons (pe_lst (pa_cons pe_str (pa_cons pe_str pa_nil))) pa_nil))) (pa_cons (pe_tup pa_nil) pa_nil)))))) pss_nil)
      (pss_cons (ps_if (pt_cmpR op_lt (pv 3) pe_int (nomark _))
        (pss_cons (ps_asg (pe_call GP h2 (by rfl) L.gPk L.FPk.kp L.bPk .nil pass0 (pa_cons (pv 0) (pa_cons (pe_lst (pa_cons (pe_tup (pa_cons pe_str (pa_cons pe_int pa_nil))) (pa_cons (pe_tup (pa_cons pe_str (pa_cons pe_int pa_nil))) (pa_cons (pe_tup (pa_cons pe_str (pa_cons pe_int pa_nil)))
            (pa_cons (pe_tup (pa_cons pe_str (pa_cons pe_int pa_nil))) (pa_cons (pe_tup (pa_cons pe_str (pa_cons pe_int pa_nil))) (pa_cons (pe_tup (pa_cons pe_str (pa_cons pe_int pa_nil))) pa_nil))))))) pa_nil))) (pg_tup (by rfl) (pgs_cons (pg_name (i := 4) scDrawn.nd rfl (Or.inl rfl)) (pgs_cons (pg_name (i := 5) scDrawn.nd rfl (Or.inl rfl)) pgs_nil))))
        (pss_one (ps_ret (pe_tup (pa_cons pe_str (pa_cons (pv 4) (pa_cons (pe_callTy call_tuple_of (by rfl) B.tuple (by decide +kernel) (pa_cons
          (pe_lc (own := [("_law_turn", 7)]) (g := gName 7) (tt := tYes) (te := tCall spN [] E0 (tCons (tVar 0) (tCons (tOp (rI0 fun i j => .int (i - j)) (tVar 1) (tC (.int 1))) (tCons (tVar 2) tNil)))) rfl scDrawn.nd (pi_range1 (by rfl) B.range (pa_cons (pv 5) pa_nil))
            (blkOk_by (own := [("_law_turn", 7)]) (N := ["_law_stream_here", "_law_deep", "_law_seen", "_law_way", "_law_sign", "_law_size", "_law_name_here", "_law_turn"]) (sc := defScope sDrawn) (by decide +kernel))
            (fun _ _ _ _ _ => pg_name (i := 7) scDrawn.nd rfl (Or.inl rfl)) (fun _ _ _ _ _ => pts_nil)
            (fun _ _ _ _ _ => by exact pe_call GN hk (by rfl) Y.gDn Y.FDn.kp Y.bDn .nil pass0 (pa_cons (pv 0) (pa_cons (pe_op op_sub (pv 1) pe_int) (pa_cons (pv 2) pa_nil))))) pa_nil)) pa_nil))))))) pss_nil)
      (pss_cons (ps_if (pt_cmpR op_lt (pv 3) pe_int (nomark _))
        (pss_cons (ps_set (i := 6) scDrawn.nd rfl (Or.inl rfl) (pe_call GP h2 (by rfl) L.gPk L.FPk.kp L.bPk .nil pass0 (pa_cons (pv 0) (pa_cons (pe_lst (pa_cons pe_str (pa_cons pe_str (pa_cons pe_str (pa_cons pe_str pa_nil))))) pa_nil))))
        (pss_one (ps_ret (pe_tup (pa_cons pe_str (pa_cons (pv 6) (pa_cons (pe_call GN hk (by rfl) Y.gDn Y.FDn.kp Y.bDn .nil pass0 (pa_cons (pv 0) (pa_cons (pe_op op_sub (pv 1) pe_int) (pa_cons (pe_op op_cat (pv 2) (pe_lst (pa_cons (pv 6) pa_nil))) pa_nil)))) pa_nil))))))) pss_nil)
      (pss_one (ps_ret (pe_call GB hr (by rfl) Y.gBk Y.FBk.kp Y.bBk .nil pass0 (pa_cons (pv 0) (pa_cons (pv 1) (pa_cons (pv 2) pa_nil))))))))))), ?_⟩
    have sl := sizeLine_eq
    refine ⟨.ref a, rfl, a, 10, rfl, hs, by decide, small_big (by decide), fun r H1 r0 r1 o1 hs1 => ?_⟩
    have j1 : Jst a H H1 := ⟨hs, hs1, o1⟩
    have hl1 := hl.ex j1 hla
    refine ⟨fun σ' H' => σ' = [some (.ref a), some (.int n), some (.ref l), some (.int r), none, none, none, none] ∧ Jst a H H', ?_, ?_⟩
    · refine ⟨.ref l, rfl, (by show 0 ≤ sizeLine; decide), fun p np => ?_⟩
      have s2 := Same.new (o := .lst []) np
      have hp : (upd H1 p (.lst [])) p = some (.lst []) := upd_same
      generalize upd H1 p (.lst []) = H2 at s2 hp ⊢
      have j2 := j1.trans (.same hs1 s2)
      have hl2 := hl.ex j2 hla
      have go : 1 ≤ xs.length → ∀ R : TS, (tRet (tTup (tCons (tC (.str "name")) (tCons (tCall (spPick K) [] E0 (tCons (tVar 0) (tCons (tVar 2) tNil))) tNil)))) { nx := fun σ' H' => σ' = [some (.ref a), some (.int n), some (.ref l), some (.int r), none, none, none, none] ∧ Jst a H H', rt := Q } [some (.ref a), some (.int n), some (.ref l), some (.int r), none, none, none, none] H2 := fun ne R => by
        refine ⟨.ref a, rfl, .ref l, rfl, a, l, _, rfl, j2.2.1, hla, SqL.of hl2.1, by rw [List.length_map]; exact ne, by rw [List.length_map]; omega, fun i x H3 hx o3 hs3 => ?_⟩
        obtain ⟨y, hy, rfl⟩ := strs_at' hx
        have j3 : Jst a H H3 := j2.trans ⟨j2.2.1, hs3, o3⟩
        refine ⟨(by show 2 ≤ sizeLine; decide), fun t nt => ?_⟩
        have st := Same.new (o := .tup [V.str "name", .str y]) nt
        exact q _ (mkU y) _ (j3.trans (.same hs3 st)) (tup_val upd_same (.cons (.str _) (.cons (.str _) .nil)) (by simp)) (ow_U (n := 2 * n) (hl.2 y (List.mem_of_getElem? hy)) (List.mem_of_getElem? hy))
      refine ne_nil hl.2 (SqL.of hl2.1) (SqL.of hp) ⟨_, rfl, ite2 (fun e2 => ?_) (fun e2 => ⟨rfl, j2⟩)⟩
      have ne : 1 ≤ xs.length := by
        cases xs with
        | nil => cases e2
        | cons y ys => simp
      refine ⟨_, rfl, _, _, rfl, rfl, _, rfl, ite2 (fun e3 => go ne tNext) (fun e3 => ?_)⟩
      exact ⟨_, rfl, _, _, rfl, rfl, _, rfl, ite2 (fun e4 => go ne tNext) (fun e4 => ⟨rfl, j2⟩)⟩
    · rintro σ' H2 ⟨rfl, j2⟩
      have hl2 := hl.ex j2 hla
      have hs2 := j2.2.1
      have leaf : (tRet (tTup (tCons (tC (.str "word")) (tCons (tCall (spPick K) [] E0 (tCons (tVar 0) (tCons (tLst (tCons (tC (.str "k")) (tCons (tC (.str "m")) tNil))) tNil))) (tCons (tTup tNil) tNil))))) { nx := fun _ H' => Q .non H', rt := Q } [some (.ref a), some (.int n), some (.ref l), some (.int r), none, none, none, none] H2 := by
        refine ⟨.ref a, rfl, pick_gv (G := H2) (gva_cons (gv_str "k") (gva_cons (gv_str "m") gva_nil)) (Same.refl _) hs2 (by decide) (by decide) fun x d H3 hd j3 rd => ?_⟩
        obtain ⟨y, rfl, hy⟩ : ∃ y, d = .str y ∧ nmOk y = true := by
          simp only [List.mem_cons, List.not_mem_nil, or_false] at hd
          rcases hd with rfl | rfl
          · exact ⟨_, rfl, nm_k⟩
          · exact ⟨_, rfl, nm_m⟩
        cases rd
        refine ⟨(by show 0 ≤ sizeLine; decide), fun t1 n1 => ?_⟩
        have s4 := Same.new (o := .tup []) n1
        have h4 : (upd H3 t1 (.tup [])) t1 = some (.tup []) := upd_same
        generalize upd H3 t1 (.tup []) = H4 at s4 h4 ⊢
        refine ⟨(by show 3 ≤ sizeLine; decide), fun t2 n2 => ?_⟩
        have s5 := Same.new (o := .tup [V.str "word", .str y, .ref t1]) n2
        exact q _ (mkW y []) _ ((j2.trans j3).trans (.same j3.2.1 (s4.trans s5))) (tup_val upd_same (.cons (.str _) (.cons (.str _) (.cons (tup_val (s5 _ _ h4) .nil (Nat.zero_le _)) .nil))) (by simp)) (ow_W (n := 2 * n) hy (Nat.zero_le _) fun e he => by cases he)
      refine ⟨_, rfl, _, _, rfl, rfl, _, rfl, ite2 (fun e3 => leaf) (fun e3 => ?_)⟩
      refine ⟨_, rfl, _, _, rfl, rfl, _, rfl, ite2 (fun e4 => leaf) (fun e4 => ?_)⟩
      obtain ⟨m, rfl⟩ : ∃ m, n = m + 1 := by
        cases n with
        | zero => exact absurd (decide_eq_true (by decide)) e3
        | succ m => exact ⟨m, rfl⟩
      have eN := hN m rfl
      have eB := hB m rfl
      subst eN
      subst eB
      refine ⟨_, rfl, _, _, rfl, rfl, _, rfl, ite2 (fun e5 => ?_) (fun e5 => ?_)⟩
      · refine ⟨.ref a, rfl, pick_gv (G := H2) (gva_cons gv_pair (gva_cons gv_pair (gva_cons gv_pair (gva_cons gv_pair (gva_cons gv_pair (gva_cons gv_pair gva_nil)))))) (Same.refl _) hs2 (by simp) (by simp) fun x d H3 hd j3 rd => ?_⟩
        obtain ⟨y, c, rfl, hy, hm⟩ : SgOk d := by
          simp only [List.mem_cons, List.not_mem_nil, or_false] at hd
          rcases hd with rfl | rfl | rfl | rfl | rfl | rfl
          · exact ⟨_, 1, rfl, nm_f, by decide⟩
          · exact ⟨_, 1, rfl, nm_g, by decide⟩
          · exact ⟨_, 2, rfl, nm_at, by decide⟩
          · exact ⟨_, 2, rfl, nm_at, by decide⟩
          · exact ⟨_, 2, rfl, nm_pair, by decide⟩
          · exact ⟨_, 3, rfl, nm_f, by decide⟩
        obtain ⟨t, us, rfl, ht, hus, _⟩ := rd.tupd'
        obtain ⟨u1, u2, rfl, r1, r2⟩ := hus.pair
        cases r1
        cases r2
        have hl3 := hl2.ex j3 hla
        have hs3 := j3.2.1
        refine ⟨t, _, rfl, ht, rfl, _, _, rfl, _, _, rfl, rfl, ?_⟩
        refine ⟨_, rfl, .int c, rfl, (c : Int), rfl, by omega, by omega, fun D0 nD => ?_⟩
        refine lcJR (K := K) (J := Jst a) (Pd := fun _ d => OpW (2 * m + 1) xs d) (jr_st a) (.refl hs3) (by omega) nD ?_ ?_
        · intro i H4 Q4 Z4 _ j4 hQ
          refine ⟨rfl, ?_⟩
          refine iteT (B := Z4 H4) ⟨.ref a, rfl, .int (m + 1 : Nat), rfl, _, _, rfl, rfl, .ref l, rfl, a, l, xs, by show [V.ref a, V.int (((m + 1 : Nat) : Int) - 1), V.ref l] = _; rw [sub1], j4.2.1, hla, hl3.ex j4 hla, by omega, fun v d H5 j5 rv ov => hQ v H5 d j5 rv ov⟩
        · intro H4 zs ds j4 hD rz lz hds
          have ld : ds.length ≤ 3 := by omega
          refine ⟨D0, zs, rfl, .inl ⟨SqL.of hD, fun t1 n1 => ?_⟩⟩
          have s5 := Same.new (o := .tup zs) n1
          have h5 : (upd H4 t1 (.tup zs)) t1 = some (.tup zs) := upd_same
          generalize upd H4 t1 (.tup zs) = H5 at s5 h5 ⊢
          refine ⟨(by show 3 ≤ sizeLine; decide), fun t2 n2 => ?_⟩
          have s6 := Same.new (o := .tup [V.str "word", .str y, .ref t1]) n2
          have j6 : Jst a H (upd H5 t2 (.tup [V.str "word", .str y, .ref t1])) := (j2.trans j3).trans (j4.trans (.same j4.2.1 (s5.trans s6)))
          have r1 : Rdd K (upd H5 t2 (.tup [V.str "word", .str y, .ref t1])) (.ref t1) (.tup ds) := tup_val (s6 _ _ h5) (RddAll.ex (.same (s5.trans s6)) _ rz) (by omega)
          exact q _ (mkW y ds) _ j6 (tup_val upd_same (.cons (.str _) (.cons (.str _) (.cons r1 .nil))) (by simp)) (ow_W hy ld fun e he => by
            obtain ⟨i, hi, rfl⟩ := List.getElem_of_mem he
            exact (hds i _ (List.getElem?_eq_getElem hi)).le (by omega))
      · refine ⟨_, rfl, _, _, rfl, rfl, _, rfl, ite2 (fun e6 => ?_) (fun e6 => ?_)⟩
        · refine ⟨.ref a, rfl, pick_gv (G := H2) (gva_cons (gv_str "a") (gva_cons (gv_str "b") (gva_cons (gv_str "c") (gva_cons (gv_str "x") gva_nil)))) (Same.refl _) hs2 (by decide) (by decide) fun x d H3 hd j3 rd => ?_⟩
          obtain ⟨y, rfl, hy⟩ : ∃ y, d = .str y ∧ nmOk y = true := by
            simp only [List.mem_cons, List.not_mem_nil, or_false] at hd
            rcases hd with rfl | rfl | rfl | rfl
            · exact ⟨_, rfl, nm_a⟩
            · exact ⟨_, rfl, nm_b⟩
            · exact ⟨_, rfl, nm_c⟩
            · exact ⟨_, rfl, nm_x⟩
          cases rd
          have hl3 := hl2.ex j3 hla
          refine ⟨_, rfl, .ref a, rfl, .int (m + 1 : Nat), rfl, _, _, rfl, rfl, .ref l, rfl, _, rfl, (by show 1 ≤ sizeLine; decide), fun p np => ?_⟩
          have s4 := Same.new (o := .lst [V.str y]) np
          have hp : (upd H3 p (.lst [V.str y])) p = some (.lst [V.str y]) := upd_same
          generalize upd H3 p (.lst [V.str y]) = H4 at s4 hp ⊢
          have hs4 := j3.2.1.same s4
          refine ⟨l, p, xs.map V.str, [V.str y], rfl, rfl, s4 _ _ hl3.1, hp, by rw [List.length_map]; simp; omega, fun p2 np2 => ?_⟩
          have s5 := Same.new (o := .lst (xs.map V.str ++ [V.str y])) np2
          have hp2 : (upd H4 p2 (.lst (xs.map V.str ++ [V.str y]))) p2 = some (.lst (xs.map V.str ++ [V.str y])) := upd_same
          generalize upd H4 p2 (.lst (xs.map V.str ++ [V.str y])) = H5 at s5 hp2 ⊢
          have e2 : xs.map V.str ++ [V.str y] = (xs ++ [y]).map V.str := by rw [List.map_append] <;> rfl
          rw [e2] at hp2
          have hs5 := hs4.same s5
          have j5 : Jst a H H5 := (j2.trans j3).trans ((Jst.same j3.2.1 s4).trans (.same hs4 s5))
          refine ⟨a, p2, xs ++ [y], by show [V.ref a, V.int (((m + 1 : Nat) : Int) - 1), V.ref p2] = _; rw [sub1], hs5, hs4.ne np2, ⟨hp2, fun z hz => ?_⟩, by rw [List.length_append]; simp; omega, fun v d H6 j6 rv ov => ?_⟩
          · rcases List.mem_append.mp hz with hz | hz
            · exact hl.2 z hz
            · rw [List.mem_singleton.mp hz]
              exact hy
          · refine ⟨(by show 3 ≤ sizeLine; decide), fun t nt => ?_⟩
            have st := Same.new (o := .tup [V.str "fun", .str y, v]) nt
            exact q _ (mkF y d) _ ((j5.trans j6).trans (.same j6.2.1 st)) (tup_val upd_same (.cons (.str _) (.cons (.str _) (.cons (Rdd.ex (.same st) _ rv) .nil))) (by simp)) (ow_F hy (ov.le (by omega)) fun z hz => by
              rcases List.mem_append.mp hz with hz | hz
              · exact List.mem_cons_of_mem _ hz
              · rw [List.mem_singleton.mp hz]
                exact List.mem_cons_self)
        · exact ⟨_, rfl, _, rfl, _, rfl, a, l, xs, rfl, hs2, hla, hl2, hb, fun v d H3 j3 rv ov => q v d H3 (j2.trans j3) rv (ov.le (by omega))⟩
/-- drawn terms of any depth -/
theorem all_drawn (Y : Ld K mg fDn fBk fHd fdDn fdBk fdHd) (L : Lw K mg fSt fDr fPk fMx fdSt fdDr fdPk fdMx) (B : Bt mg) : ∀ n, FnOk P w K mg base CX0 (5 + 3 * n) fDn fdDn ["_law_stream_here", "_law_deep", "_law_seen"] (spDrawn K n)
  | 0 => ok_drawn 0 2 (by decide) ok_false ok_false (fun m h => by cases h) (fun m h => by cases h) Y L B
  | n + 1 => by
    have G := all_drawn Y L B n
    have GB := ok_block n (5 + 3 * n) (by omega) G Y L B
    exact ok_drawn (n + 1) (5 + 3 * n) (by omega) G GB (fun m h => by cases h; rfl) (fun m h => by cases h; rfl) Y L B
end
end Sl

set_option Elab.async false
set_option linter.all false
set_option maxRecDepth 100000
set_option maxHeartbeats 400000
namespace Sl
open PySem PySem.Spec PyProof.Rows L2
abbrev sPart : Stmt := topT 42
theorem scPart : FnScope ["_law_root", "_law_path", "_law_spot"] ["_law_root", "_law_path"] (defScope sPart) := ⟨rfl, rfl, rfl, by decide +kernel, rfl, by decide +kernel, by decide +kernel⟩
/-- a path of an open term -/
def PathOf : List Nat → D → Prop
  | [], _ => True
  | i :: p, d => ∃ e, (inn d)[i]? = some e ∧ PathOf p e
def subD : List Nat → D → D
  | [], d => d
  | i :: p, d => match (inn d)[i]? with
    | some e => subD p e
    | none => d
theorem sub_ok : ∀ {p : List Nat} {d : D} {n : Nat}, PathOf p d → OpN n d → OpN (n - p.length) (subD p d) ∧ p.length < n
  | [], d, n, _, h => ⟨h, by
    cases n with
    | zero => exact h.elim
    | succ n => exact Nat.succ_pos n⟩
  | i :: p, d, 0, _, h => h.elim
  | i :: p, d, n + 1, ⟨e, he, hp⟩, h => by
    have h1 := (OpN.s.mp h).2 e (List.mem_of_getElem? he)
    have h2 := sub_ok hp h1
    have e1 : subD (i :: p) d = subD p e := by
      show (match (inn d)[i]? with | some e => subD p e | none => d) = _
      rw [he]
    rw [e1, List.length_cons, Nat.succ_sub_succ]
    exact ⟨h2.1, by omega⟩
section
variable {P : Program} {w : World} {K : PySem.W.Frag} {mg : Str → Option Value} {base : Heap}
/-- the law's small ones -/
structure Lp (K : PySem.W.Frag) (mg : Str → Option Value) (fIn fPa : Addr) (fdIn fdPa : FuncData) : Prop where
  FIn : Fun K "_law_inner" "_law_inner" sInner fIn fdIn
  bIn : Binds K fdIn ["_law_part_here"] []
  gIn : mg "_law_inner" = some (.ref fIn)
  FPa : Fun K "_law_part" "_law_part" sPart fPa fdPa
  bPa : Binds K fdPa ["_law_root", "_law_path"] []
  gPa : mg "_law_part" = some (.ref fPa)
variable {fIn fPa : Addr} {fdIn fdPa : FuncData}
theorem ok_inner (T : Lp K mg fIn fPa fdIn fdPa) (B : Bt mg) : FnOk P w K mg base CX0 1 fIn fdIn ["_law_part_here"] (spInn K) := by
  refine T.FIn.ok scInner (fun vs H Q E h => ?_) (fun cdv A outer s H vs Q E hr h => ?_)
  · obtain ⟨v, d, rfl, _⟩ := h
    rfl
  · obtain ⟨v, d, rfl, hv, hb, q⟩ := h
    refine ⟨_, (pss_cons (ps_if (pt_cmpR op_eq (pe_ix ix_tup (pv 0) pe_int (fun _ _ => rfl)) pe_str (nomark _))
        (pss_one (ps_ret (pe_ix ix_tup (pv 0) pe_int (fun _ _ => rfl)))) pss_nil)
      (pss_cons (ps_if (pt_cmpR op_eq (pe_ix ix_tup (pv 0) pe_int (fun _ _ => rfl)) pe_str (nomark _))
        (pss_one (ps_ret (pe_tup (pa_cons (pe_ix ix_tup (pv 0) pe_int (fun _ _ => rfl)) pa_nil)))) pss_nil)
      (pss_one (ps_ret (pe_ifExp (pt_cmpR op_eq (pe_ix ix_tup (pv 0) pe_int (fun _ _ => rfl)) pe_str (nomark _)) (pe_op op_catT (pe_callTy call_tuple_of (by rfl) B.tuple (by decide +kernel) (pa_cons
          (pe_lc (own := [("_law_name_here", 1), ("_law_inner_here", 2)]) (g := gTup K 2 (gCons (gName 1) (gCons (gName 2) gNil))) (tt := tYes) rfl scInner.nd (pi_tup (pe_ix ix_tup (pv 0) pe_int (fun _ _ => rfl))) (blkOk_by (own := [("_law_name_here", 1), ("_law_inner_here", 2)]) (N := ["_law_part_here", "_law_name_here", "_law_inner_here"]) (sc := defScope sInner) (by decide +kernel))
            (fun _ _ _ _ _ => pg_tup rfl (pgs_cons (pg_name (i := 1) scInner.nd rfl (Or.inl rfl)) (pgs_cons (pg_name (i := 2) scInner.nd rfl (Or.inl rfl)) pgs_nil))) (fun _ _ _ _ _ => pts_nil)
            (fun _ _ _ _ _ => pv 2)) pa_nil)) (pe_tup (pa_cons (pe_ix ix_tup (pv 0) pe_int (fun _ _ => rfl)) pa_nil))) (pe_tup pa_nil)))))), ?_⟩
    rcases built_cases hb with ⟨x, rfl, _⟩ | ⟨x, l, rfl, _, hl⟩ | ⟨x, b, rfl, _⟩ | ⟨ps, b, rfl, hp⟩
    · obtain ⟨a, xs, rfl, hs, hx, _⟩ := hv.tupd'
      obtain ⟨x1, x2, rfl, r1, r2⟩ := hx.pair
      cases r1
      refine ⟨.ref a, rfl, a, _, 0, _, rfl, rfl, hs, atI_nat (j := 0) rfl, rfl, _, rfl, ?_⟩
      rw [str_dec, decide_eq_false (by decide +kernel : ¬ ("name" : Str) = "word")]
      refine iteF ⟨.ref a, rfl, a, _, 0, _, rfl, rfl, hs, atI_nat (j := 0) rfl, rfl, _, rfl, ?_⟩
      rw [str_dec, decide_eq_false (by decide +kernel : ¬ ("name" : Str) = "fun")]
      refine iteF ⟨.ref a, rfl, a, _, 0, _, rfl, rfl, hs, atI_nat (j := 0) rfl, rfl, _, rfl, ?_⟩
      rw [str_dec, decide_eq_false (by decide +kernel : ¬ ("name" : Str) = "let")]
      refine iteF ⟨(by show 0 ≤ sizeLine; decide), fun p np => ?_⟩
      exact q _ _ (Same.new np) (.tup (SqT.of upd_same) .nil (Nat.zero_le _))
    · obtain ⟨a, xs, rfl, hs, hx, _⟩ := hv.tupd'
      obtain ⟨x1, x2, x3, rfl, r1, r2, r3⟩ := hx.trip
      cases r1
      refine ⟨.ref a, rfl, a, _, 0, _, rfl, rfl, hs, atI_nat (j := 0) rfl, rfl, _, rfl, ?_⟩
      rw [str_dec, decide_eq_true rfl]
      refine iteT ⟨.ref a, rfl, a, _, 2, _, rfl, rfl, hs, atI_nat (j := 2) rfl, q _ _ (Same.refl _) ?_⟩
      rw [inn_W]
      exact r3
    · obtain ⟨a, xs, rfl, hs, hx, _⟩ := hv.tupd'
      obtain ⟨x1, x2, x3, rfl, r1, r2, r3⟩ := hx.trip
      cases r1
      refine ⟨.ref a, rfl, a, _, 0, _, rfl, rfl, hs, atI_nat (j := 0) rfl, rfl, _, rfl, ?_⟩
      rw [str_dec, decide_eq_false ne_wf]
      refine iteF ⟨.ref a, rfl, a, _, 0, _, rfl, rfl, hs, atI_nat (j := 0) rfl, rfl, _, rfl, ?_⟩
      rw [str_dec, decide_eq_true rfl]
      refine iteT ⟨.ref a, rfl, a, _, 2, _, rfl, rfl, hs, atI_nat (j := 2) rfl, (by show 1 ≤ sizeLine; decide), fun p np => ?_⟩
      have sm := Same.new (o := .tup [x3]) np
      rw [inn_F] at q
      exact q _ _ sm (.tup (SqT.of upd_same) (.cons (Rdd.ex (.same sm) _ r3) .nil) (by simp))
    · obtain ⟨a, xs, rfl, hs, hx, _⟩ := hv.tupd'
      obtain ⟨x1, x2, x3, rfl, r1, r2, r3⟩ := hx.trip
      cases r1
      obtain ⟨c, ys, rfl, hc, hy, hyz⟩ := r2.tupd'
      refine ⟨.ref a, rfl, a, _, 0, _, rfl, rfl, hs, atI_nat (j := 0) rfl, rfl, _, rfl, ?_⟩
      rw [str_dec, decide_eq_false ne_wl]
      refine iteF ⟨.ref a, rfl, a, _, 0, _, rfl, rfl, hs, atI_nat (j := 0) rfl, rfl, _, rfl, ?_⟩
      rw [str_dec, decide_eq_false ne_fl]
      refine iteF ⟨.ref a, rfl, a, _, 0, _, rfl, rfl, hs, atI_nat (j := 0) rfl, rfl, _, rfl, ?_⟩
      rw [str_dec, decide_eq_true rfl]
      refine iteT ?_
      obtain ⟨us, ru, lu, at'⟩ := hy.snds
      have ly := hy.length
      have lp : (mkPs ps).length = ps.length := List.length_map ..
      have sl := sizeLine_eq
      have hp1 := hp.1
      have hp2 := hp.2.1
      refine ⟨.ref a, rfl, a, _, 1, .ref c, rfl, rfl, hs, atI_nat (j := 1) rfl, c, rfl, ⟨_, hc⟩, fun D0 nD => lcT (us.map some) (by rw [List.length_map, lu]) (by omega) hc nD ?_ ?_⟩
      · intro i x H2 Q2 Z2 hx sm hQ _
        obtain ⟨e, y, u, rfl, he, hu, _⟩ := at' i x hx
        refine ⟨e, _, rfl, (Ex.same sm).tup he, rfl, _, _, rfl, _, _, rfl, rfl, rfl, ?_⟩
        refine iteT (B := Z2 H2) ⟨_, rfl, hQ _ _ ?_ (Same.refl _)⟩
        rw [List.getElem?_map, hu]
        rfl
      · intro H2 sm hl2
        rw [fm_snd] at hl2
        refine ⟨D0, us, rfl, .inl ⟨SqL.of hl2, fun p1 n1 => ?_⟩⟩
        have sm1 := Same.new (o := .tup us) n1
        have hp1' : (upd H2 p1 (.tup us)) p1 = some (.tup us) := upd_same
        generalize upd H2 p1 (.tup us) = H3 at sm1 hp1' ⊢
        have s3 := sm.trans sm1
        refine ⟨.ref a, rfl, a, _, 2, x3, rfl, rfl, (Ex.same s3).tup hs, atI_nat (j := 2) rfl, (by show 1 ≤ sizeLine; decide), fun p2 n2 => ?_⟩
        have sm2 := Same.new (o := .tup [x3]) n2
        have hp2' : (upd H3 p2 (.tup [x3])) p2 = some (.tup [x3]) := upd_same
        generalize upd H3 p2 (.tup [x3]) = H4 at sm2 hp2' ⊢
        refine ⟨p1, p2, us, [x3], rfl, rfl, SqT.of (sm2 _ _ hp1'), SqT.of hp2', fun z => ?_, (by show us.length + 1 ≤ sizeLine; omega), (fun z => nomatch z), fun _ p3 n3 => ?_⟩
        · rw [z] at lu
          have : (0 : Nat) = ys.length := lu
          omega
        · have sm3 := Same.new (o := .tup (us ++ [x3])) n3
          have s5 := (s3.trans sm2).trans sm3
          rw [inn_L] at q
          refine q _ _ s5 (.tup (SqT.of upd_same) ((RddAll.ex (.same s5) _ ru).app (.cons (Rdd.ex (.same s5) _ r3) .nil)) ?_)
          rw [List.length_append, List.length_map]
          simp
          omega
def spPart (K : PySem.W.Frag) : Sp := fun vs H Q _ => ∃ (v : V) (d : D) (t : Addr) (p : List Nat) (n : Nat), vs = [v, .ref t] ∧ Rdd K H v d ∧ OpN n d ∧ SqT K H t (p.map fun i => V.int (i : Nat)) ∧ PathOf p d ∧ ∀ r H', Same H H' → Rdd K H' r (subD p d) → Q r H'
theorem ok_part (T : Lp K mg fIn fPa fdIn fdPa) (B : Bt mg) : FnOk P w K mg base CX0 2 fPa fdPa ["_law_root", "_law_path"] (spPart K) := by
  have GI : FnOk P w K mg base CX0 1 fIn fdIn ["_law_part_here"] (spInn K) := ok_inner T B
  refine T.FPa.ok scPart (fun vs H Q E h => ?_) (fun cdv A outer s H vs Q E hr h => ?_)
  · obtain ⟨v, d, t, p, n, rfl, _⟩ := h
    rfl
  · obtain ⟨v, d, t, p, n, rfl, hv, ho, ht, hp, q⟩ := h
    refine ⟨_, pss_cons (ps_for PassesOwn.never rfl (pi_tup (pv 1)) (pg_name (i := 2) scPart.nd rfl (Or.inl rfl))
        (pss_one (ps_set (i := 0) scPart.nd rfl (Or.inl rfl) (pe_ix ix_tup (pe_call GI hr (by rfl) T.gIn T.FIn.kp T.bIn .nil pass0 (pa_cons (pv 0) pa_nil)) (pv 2) (fun _ _ => rfl)))))
      (pss_one (ps_ret (pv 0))), ?_⟩
    refine ⟨.ref t, rfl, t, rfl, ⟨_, ht⟩, for_tup (K := K) (xs := p.map fun i => V.int (i : Nat)) (fun i σ' H' => ∃ u e y m, σ' = [some u, some (.ref t), y] ∧ Same H H' ∧ Rdd K H' u e ∧ OpN m e ∧ PathOf (p.drop i) e ∧ subD (p.drop i) e = subD p d)
      ⟨v, d, none, n, rfl, Same.refl _, hv, ho, hp, rfl⟩ ?_ ?_ ?_⟩
    · rintro i σ' H' _ ⟨u, e, y, m, rfl, s, _⟩
      exact (Ex.same s).tup ht
    · rintro i x σ' H' hx ⟨u, e, y, m, rfl, s, ru, om, pe, es⟩
      rw [List.getElem?_map] at hx
      obtain ⟨j, hj, rfl⟩ := Option.map_eq_some_iff.mp hx
      have hlt := (List.getElem?_eq_some_iff.mp hj).1
      have ed : p.drop i = j :: p.drop (i + 1) := by
        rw [List.drop_eq_getElem_cons hlt, (List.getElem?_eq_some_iff.mp hj).2]
      rw [ed] at pe es
      obtain ⟨e2, he2, pe2⟩ := pe
      cases m with
      | zero => exact om.elim
      | succ m =>
        have om' := OpN.s.mp om
        refine ⟨u, rfl, u, e, rfl, ru, om'.1.1, fun r H2 s2 rr => ?_⟩
        obtain ⟨b, us, rfl, hb, hus, _⟩ := rr.tupd'
        obtain ⟨u2, hu2, ru2⟩ := hus.at he2
        refine ⟨_, rfl, b, us, j, u2, rfl, rfl, hb, atI_nat hu2, ?_⟩
        refine ⟨u2, e2, _, m, rfl, s.trans s2, ru2, om'.2 e2 (List.mem_of_getElem? he2), pe2, ?_⟩
        rw [← es]
        show _ = (match (inn e)[j]? with | some e => subD (p.drop (i + 1)) e | none => e)
        rw [he2]
    · rintro σ' H' ⟨u, e, y, m, rfl, s, ru, om, pe, es⟩
      rw [List.length_map, List.drop_length] at es
      refine ⟨u, rfl, q u H' s ?_⟩
      rw [← es]
      exact ru
end
end Sl

set_option Elab.async false
set_option linter.all false
set_option maxRecDepth 100000
set_option maxHeartbeats 400000
namespace Sl
open PySem PySem.Spec PyProof.Rows L2
abbrev sPaths : Stmt := topT 50
theorem scPaths : FnScope ["_law_root", "_law_found", "_law_waits", "_law_path", "_law_spot"] ["_law_root"] (defScope sPaths) := ⟨rfl, rfl, rfl, by decide +kernel, rfl, by decide +kernel, by decide +kernel⟩
/-- a path as a value -/
def pd (p : List Nat) : D := .tup (p.map fun i => D.int (i : Nat))
theorem ints_of {K : PySem.W.Frag} {H : Hp} : ∀ {vs : List V} {p : List Nat}, RddAll K H vs (p.map fun i => D.int (i : Nat)) → vs = p.map fun i => V.int (i : Nat)
  | _, [], h => by
    cases h
    rfl
  | _, x :: xs, h => by
    cases h with
    | cons h1 h2 =>
      cases h1
      rw [ints_of h2]
      rfl
theorem of_ints {K : PySem.W.Frag} {H : Hp} : ∀ p : List Nat, RddAll K H (p.map fun i => V.int (i : Nat)) (p.map fun i => D.int (i : Nat))
  | [] => .nil
  | i :: p => .cons (.int _) (of_ints p)
theorem pd_tup {K : PySem.W.Frag} {H : Hp} {v : V} {p : List Nat} (h : Rdd K H v (pd p)) : ∃ t, v = .ref t ∧ SqT K H t (p.map fun i => V.int (i : Nat)) := by
  obtain ⟨t, us, rfl, ht, hu, _⟩ := h.tupd'
  rw [ints_of hu] at ht
  exact ⟨t, rfl, ht⟩
theorem tup_pd {K : PySem.W.Frag} {H : Hp} {t : Addr} {p : List Nat} (h : SqT K H t (p.map fun i => V.int (i : Nat))) (l : p.length ≤ 1000) : Rdd K H (.ref t) (pd p) := .tup h (of_ints p) (by rw [List.length_map]; omega)
theorem pd_good {p : List Nat} (h : ∀ i ∈ p, i < 4) : (pd p).good = true := by
  unfold pd
  simp only [D.good]
  refine goods_of fun d hd => ?_
  obtain ⟨i, hi, rfl⟩ := List.mem_map.mp hd
  have := h i hi
  simp only [D.good, decide_eq_true_eq]
  have : i = 0 ∨ i = 1 ∨ i = 2 ∨ i = 3 := by omega
  rcases this with rfl | rfl | rfl | rfl <;> decide
theorem path_low : ∀ {p : List Nat} {d : D} {n : Nat}, PathOf p d → OpN n d → ∀ i ∈ p, i < 4
  | [], _, _, _, _, i, h => by cases h
  | j :: p, d, 0, _, h, _, _ => h.elim
  | j :: p, d, n + 1, ⟨e, he, hp⟩, h, i, hi => by
    have h' := OpN.s.mp h
    rcases List.mem_cons.mp hi with rfl | hi
    · have := (List.getElem?_eq_some_iff.mp he).1
      omega
    · exact path_low hp (h'.2 e (List.mem_of_getElem? he)) i hi
theorem path_snoc : ∀ {p : List Nat} {d e : D} {i : Nat}, PathOf p d → (inn (subD p d))[i]? = some e → PathOf (p ++ [i]) d ∧ subD (p ++ [i]) d = e
  | [], d, e, i, _, h => ⟨⟨e, h, trivial⟩, by
    show (match (inn d)[i]? with | some e => subD [] e | none => d) = e
    have h' : (inn d)[i]? = some e := h
    rw [h']
    rfl⟩
  | j :: p, d, e, i, ⟨u, hu, hp⟩, h => by
    have e1 : subD (j :: p) d = subD p u := by
      show (match (inn d)[j]? with | some e => subD p e | none => d) = _
      rw [hu]
    rw [e1] at h
    have ih := path_snoc hp h
    refine ⟨⟨u, hu, ih.1⟩, ?_⟩
    show (match (inn d)[j]? with | some e => subD (p ++ [i]) e | none => d) = e
    rw [hu]
    exact ih.2
/-- l != [], l a list of such values -/
theorem ne_nilD {K : PySem.W.Frag} {H : Hp} {l p : Addr} {xs : List V} {ds : List D} {Q : VK} (hl : H l = some (.lst xs)) (hp : H p = some (.lst [])) (r : RddAll K H xs ds) (g : D.goods ds = true) (hd : D.deps ds ≤ 40) (q : Q (.bl (!xs.isEmpty)) H) : rNeD K (.ref l) (.ref p) H Q := by
  have h1 := deps_py ds
  have c : (PyData.list (D.pys ds)).canLay0 = true := by
    simp only [PyData.canLay0]
    exact (goods_show ds g).2
  refine ⟨.list (D.pys ds), .list [], .lst (SqL.of hl) (RddAll.dp ds g r), .lst (SqL.of hp) .nil, ?_, by rfl, ?_⟩
  · unfold SeqAt.shaped
    rw [c, decide_eq_true (show (PyData.list (D.pys ds)).depth ≤ 64 by simp only [PyData.depth]; omega)]
    rfl
  · have e : PyData.eqv (.list (D.pys ds)) (.list []) = xs.isEmpty := by
      cases r with
      | nil => rfl
      | cons _ _ => rfl
    rw [e]
    exact q
theorem deps_pd : ∀ ps : List (List Nat), D.deps (ps.map pd) ≤ 1
  | [] => by simp [D.deps]
  | p :: ps => by
    rw [List.map_cons]
    simp only [D.deps]
    have h1 := deps_pd ps
    have h2 : (pd p).dep ≤ 1 := by
      have : ∀ q : List Nat, D.deps (q.map fun i => D.int (i : Nat)) = 0 := by
        intro q
        induction q with
        | nil => simp [D.deps]
        | cons i q ih =>
          rw [List.map_cons]
          simp only [D.deps, ih, D.dep]
          rfl
      unfold pd
      simp only [D.dep, this]
      omega
    omega
theorem sum_snoc (f : List Nat → Nat) (l m : List (List Nat)) : ((l ++ m).map f).sum = (l.map f).sum + (m.map f).sum := by rw [List.map_append, List.sum_append_nat]
theorem RddAll.unsnoc {K : PySem.W.Frag} {H : Hp} {d : D} : ∀ {ds : List D} {ws : List V}, RddAll K H ws (ds ++ [d]) → ∃ ws0 x, ws = ws0 ++ [x] ∧ RddAll K H ws0 ds ∧ Rdd K H x d
  | [], _, h => by
    cases h with
    | cons h1 h2 =>
      cases h2
      exact ⟨[], _, rfl, .nil, h1⟩
  | e :: ds, _, h => by
    cases h with
    | cons h1 h2 =>
      obtain ⟨ws0, x, rfl, h3, h4⟩ := h2.unsnoc
      exact ⟨_ :: ws0, x, rfl, .cons h1 h3, h4⟩
theorem rdd_perm {α : Type} {K : PySem.W.Frag} {H : Hp} (f : α → D) {ys zs : List V} (h : ys.Perm zs) : ∀ ps : List α, RddAll K H zs (ps.map f) → ∃ qs : List α, qs.Perm ps ∧ RddAll K H ys (qs.map f) := by
  induction h with
  | nil => exact fun ps r => ⟨ps, List.Perm.refl _, r⟩
  | cons x _ ih =>
    intro ps r
    cases ps with
    | nil => cases r
    | cons p ps =>
      cases r with
      | cons h1 h2 =>
        obtain ⟨qs, e, r⟩ := ih ps h2
        exact ⟨p :: qs, e.cons p, .cons h1 r⟩
  | swap x y l =>
    intro ps r
    match ps, r with
    | [], r => cases r
    | [p], r =>
      cases r with
      | cons _ h2 => cases h2
    | p :: q :: ps, r =>
      cases r with
      | cons h1 h2 =>
        cases h2 with
        | cons h3 h4 => exact ⟨q :: p :: ps, List.Perm.swap p q ps, .cons h3 (.cons h1 h4)⟩
  | trans _ _ i1 i2 =>
    intro ps r
    obtain ⟨qs, e, r⟩ := i2 ps r
    obtain ⟨us, e2, r2⟩ := i1 qs r
    exact ⟨us, e2.trans e, r2⟩
theorem range_map {α β : Type} {g : Nat → β} {h : α → β} (l : List α) (e : ∀ i x, l[i]? = some x → g i = h x) : (List.range l.length).map g = l.map h := by
  refine List.ext_getElem? fun i => ?_
  rw [List.getElem?_map, List.getElem?_map]
  by_cases hi : i < l.length
  · rw [List.getElem?_range hi, List.getElem?_eq_getElem hi]
    exact congrArg some (e i _ (List.getElem?_eq_getElem hi))
  · rw [List.getElem?_eq_none (by rw [List.length_range]; omega), List.getElem?_eq_none (by omega)]
    rfl
section
variable {P : Program} {w : World} {K : PySem.W.Frag} {mg : Str → Option Value} {base : Heap} {fIn fPa fPs : Addr} {fdIn fdPa fdPs : FuncData}
def spPaths (K : PySem.W.Frag) : Sp := fun vs H Q _ => ∃ (v : V) (d : D) (n : Nat), vs = [v] ∧ Rdd K H v d ∧ OpN n d ∧ n ≤ 9 ∧
  ∀ (p : Addr) (zs : List V) (ps : List (List Nat)) (H' : Hp), Same H H' → H p = none → H' p = some (.lst zs) → RddAll K H' zs (ps.map pd) → (∀ q ∈ ps, PathOf q d) → ps.length = cnt n d → Q (.ref p) H'
theorem ok_paths (F : Fun K "_law_paths" "_law_paths" sPaths fPs fdPs) (T : Lp K mg fIn fPa fdIn fdPa) (B : Bt mg) : FnOk P w K mg base CX0 3 fPs fdPs ["_law_root"] (spPaths K) := by
  have GI : FnOk P w K mg base CX0 1 fIn fdIn ["_law_part_here"] (spInn K) := ok_inner T B
  have GA : FnOk P w K mg base CX0 2 fPa fdPa ["_law_root", "_law_path"] (spPart K) := ok_part T B
  refine F.ok scPaths (fun vs H Q E h => ?_) (fun cdv A outer s H vs Q E hr h => ?_)
  · obtain ⟨v, d, n, rfl, _⟩ := h
    rfl
  · obtain ⟨v, d, n, rfl, hv, ho, hn, q⟩ := h
    have h1 := hr.mono (by decide : 1 ≤ 2)
    have hu := hr.units
    refine ⟨_, (pss_cons (ps_par (i := 1) (j := 2) (by rfl) scPaths.nd rfl rfl (by decide) rfl rfl (pa_cons (pe_lst pa_nil) (pa_cons (pe_lst (pa_cons (pe_tup pa_nil) pa_nil)) pa_nil)) (by rfl))
      (pss_cons (ps_while PassesOwn.never (pt_cmpR (op_neD hr.units) (pv 2) (pe_lst pa_nil) (nomark _))
        (pss_cons (ps_set (i := 3) scPaths.nd rfl (Or.inr rfl) (pe_bm0 PySem.F.plainAttrs_list PySem.F.slot_list_pop PySem.F.type_list_pop mt_pop (pv 2)))
        (pss_cons (ps_expr (pe_bm PySem.F.plainAttrs_list PySem.F.slot_list_append PySem.F.type_list_append mt_append (pv 1) (pa_cons (pv 3) pa_nil)))
        (pss_one (ps_expr (pe_bm PySem.F.plainAttrs_list PySem.F.slot_list_extend PySem.F.type_list_extend mt_extend (pv 2) (pa_cons
          (pe_lc (own := [("_law_spot", 4)]) (g := gName 4) (tt := tYes) (te := tOp (rCatA K) (tVar 3) (tTup (tCons (tVar 4) tNil))) rfl scPaths.nd (pi_range1 (by rfl) B.range (pa_cons (pe_callB call_len_seq (by rfl) B.len PySem.boot_len (pa_cons (pe_call GI h1 (by rfl) T.gIn T.FIn.kp T.bIn .nil pass0 (pa_cons (pe_call GA hr (by rfl) T.gPa T.FPa.kp T.bPa .nil pass0 (pa_cons (pv 0) (pa_cons (pv 3) pa_nil))) pa_nil)) pa_nil)) pa_nil))
            (blkOk_by (own := [("_law_spot", 4)]) (N := ["_law_root", "_law_found", "_law_waits", "_law_path", "_law_spot"]) (sc := defScope sPaths) (by decide +kernel))
            (fun _ _ _ _ _ => pg_name (i := 4) scPaths.nd rfl (Or.inl rfl)) (fun _ _ _ _ _ => pts_nil)
            (fun _ _ _ _ _ => by exact pe_op op_catA (pv 3) (pe_tup (pa_cons (pv 4) pa_nil)))) pa_nil)))))))
      (pss_one (ps_ret (pe_callB (cr_sortedTin hr.units) (by rfl) B.sorted (by decide +kernel) (pa_cons (pv 1) pa_nil)))))), ?_⟩
    have sl := sizeLine_eq
    have hW : cnt n d ≤ 100000 := by
      have e1 := cnt_le n d ho
      have e2 := wide_le hn
      have e3 : wide 9 = 87381 := by decide
      omega
    refine ⟨(by show 0 ≤ sizeLine; decide), fun f nf => ?_⟩
    have s1 := Same.new (o := .lst []) nf
    have hf : (upd H f (.lst [])) f = some (.lst []) := upd_same
    generalize upd H f (.lst []) = H1 at s1 hf ⊢
    refine ⟨(by show 0 ≤ sizeLine; decide), fun t0 nt0 => ?_⟩
    have s2 := Same.new (o := .tup []) nt0
    have ht0 : (upd H1 t0 (.tup [])) t0 = some (.tup []) := upd_same
    generalize upd H1 t0 (.tup []) = H2 at s2 ht0 ⊢
    refine ⟨(by show 1 ≤ sizeLine; decide), fun w0 nw0 => ⟨_, _, rfl, ?_⟩⟩
    have s3 := Same.new (o := .lst [V.ref t0]) nw0
    have hw : (upd H2 w0 (.lst [V.ref t0])) w0 = some (.lst [V.ref t0]) := upd_same
    have nw : H w0 = none := (s1.trans s2).fr nw0
    have nfw : f ≠ w0 := ne_of_none (s2 _ _ hf) nw0
    generalize upd H2 w0 (.lst [V.ref t0]) = H3 at s3 hw ⊢
    have s03 := (s1.trans s2).trans s3
    let C : List Nat → Nat := fun p => cnt (n - p.length) (subD p d)
    have oksum : ∀ qs : List (List Nat), (∀ p ∈ qs, PathOf p d) → qs.length ≤ (qs.map C).sum := by
      intro qs
      induction qs with
      | nil => exact fun _ => Nat.zero_le _
      | cons p qs ih =>
        intro hp
        have e1 := cnt_pos (sub_ok (hp p List.mem_cons_self) ho).1
        have e2 := ih fun z hz => hp z (List.mem_cons_of_mem _ hz)
        rw [List.map_cons, List.sum_cons, List.length_cons]
        show _ ≤ cnt (n - p.length) (subD p d) + _
        omega
    refine ⟨fun m σ' H' => ∃ (y : Option V) (zs : List V) (ps : List (List Nat)) (ws : List V) (qs : List (List Nat)), σ' = [some v, some (.ref f), some (.ref w0), y, none] ∧ Same H H' ∧ H' f = some (.lst zs) ∧ H' w0 = some (.lst ws) ∧ RddAll K H' zs (ps.map pd) ∧ RddAll K H' ws (qs.map pd) ∧ (∀ p ∈ ps, PathOf p d) ∧ (∀ p ∈ qs, PathOf p d) ∧
      ps.length + (qs.map C).sum = cnt n d ∧ m = (qs.map C).sum ∧ ((ps = [] ∧ qs = [[]]) ∨ ps[0]? = some []), ⟨cnt n d, none, [], [], [.ref t0], [[]], rfl, s03, s3 _ _ (s2 _ _ hf), hw, .nil, .cons (tup_pd (SqT.of (s3 _ _ ht0)) (by decide)) .nil, (fun p hp => by cases hp), (fun p hp => by rw [List.mem_singleton.mp hp]; trivial), ?_, ?_, .inl ⟨rfl, rfl⟩⟩, ?_⟩
    · show 0 + (cnt n d + 0) = cnt n d
      omega
    · show cnt n d = cnt (n - 0) d + 0
      rfl
    rintro m σ' H' ⟨y, zs, ps, ws, qs, rfl, s, hf', hw', rz, rw', okp, okq, tot, rfl, first⟩
    have gq : D.goods (qs.map pd) = true := goods_of fun x hx => by
      obtain ⟨p, hp, rfl⟩ := List.mem_map.mp hx
      exact pd_good (path_low (okq p hp) ho)
    have dq := deps_pd qs
    refine ⟨.ref w0, rfl, (by show 0 ≤ sizeLine; decide), fun e0 ne0 => ?_⟩
    have se := Same.new (o := .lst []) ne0
    have he0 : (upd H' e0 (.lst [])) e0 = some (.lst []) := upd_same
    generalize upd H' e0 (.lst []) = H4 at se he0 ⊢
    have s4 := s.trans se
    have hf4 := se _ _ hf'
    have hw4 := se _ _ hw'
    have rz4 := RddAll.ex (.same se) _ rz
    have rw4 := RddAll.ex (.same se) _ rw'
    refine ne_nilD hw4 he0 rw4 gq (by omega) ⟨_, rfl, ite2 (fun e => ?_) (fun e => ?_)⟩
    · have qne : qs ≠ [] := fun z => by
        subst z
        cases rw'
        cases e
      obtain ⟨qs0, q0, rfl⟩ : ∃ qs0 q0, qs = qs0 ++ [q0] := ⟨qs.dropLast, qs.getLast qne, (List.dropLast_concat_getLast qne).symm⟩
      rw [List.map_append] at rw4
      obtain ⟨ws0, x, rfl, rw0, rx⟩ := rw4.unsnoc
      have pq0 := okq q0 (List.mem_append_right _ (List.mem_singleton.mpr rfl))
      obtain ⟨t, rfl, ht⟩ := pd_tup rx
      obtain ⟨o1, l1⟩ := sub_ok pq0 ho
      obtain ⟨m1, hm1⟩ : ∃ m1, n - q0.length = m1 + 1 := ⟨n - q0.length - 1, by omega⟩
      rw [hm1] at o1
      have o1' := OpN.s.mp o1
      have totq : ((qs0 ++ [q0]).map C).sum = (qs0.map C).sum + (1 + ((inn (subD q0 d)).map (cnt m1)).sum) := by
        rw [sum_snoc]
        show _ + (cnt (n - q0.length) (subD q0 d) + 0) = _
        rw [hm1, Nat.add_zero, cnt_s]
      refine ⟨fun σ2 H5 => ∃ m', m' < ((qs0 ++ [q0]).map C).sum ∧ ∃ (y : Option V) (zs : List V) (ps : List (List Nat)) (ws : List V) (qs : List (List Nat)), σ2 = [some v, some (.ref f), some (.ref w0), y, none] ∧ Same H H5 ∧ H5 f = some (.lst zs) ∧ H5 w0 = some (.lst ws) ∧ RddAll K H5 zs (ps.map pd) ∧ RddAll K H5 ws (qs.map pd) ∧ (∀ p ∈ ps, PathOf p d) ∧ (∀ p ∈ qs, PathOf p d) ∧
        ps.length + (qs.map C).sum = cnt n d ∧ m' = (qs.map C).sum ∧ ((ps = [] ∧ qs = [[]]) ∨ ps[0]? = some []), fun σ2 H5 h => h, ?_⟩
      refine ⟨.ref w0, rfl, .inl ⟨rfl, _, SqL.of hw4⟩, w0, ws0 ++ [.ref t], .ref t, rfl, rfl, hw4, by simp, ?_⟩
      rw [List.dropLast_concat]
      have x5 : Ex H4 (upd H4 w0 (.lst ws0)) := (Off.put (a := w0)).ex hw4 upd_same
      have s5 : Same H (upd H4 w0 (.lst ws0)) := jr_same.put s4 nw
      have hf5 : (upd H4 w0 (.lst ws0)) f = some (.lst zs) := by rw [upd_ne nfw]; exact hf4
      have hw5 : (upd H4 w0 (.lst ws0)) w0 = some (.lst ws0) := upd_same
      generalize upd H4 w0 (.lst ws0) = H5 at x5 s5 hf5 hw5 ⊢
      have rz5 := RddAll.ex x5 _ rz4
      have rw5 := RddAll.ex x5 _ rw0
      have rx5 := Rdd.ex x5 _ rx
      have lz := rz.length
      rw [List.length_map] at lz
      refine ⟨.ref f, rfl, .inl ⟨rfl, _, SqL.of hf5⟩, .ref t, rfl, f, zs, _, rfl, rfl, hf5, by omega, ?_⟩
      have x6 : Ex H5 (upd H5 f (.lst (zs ++ [.ref t]))) := (Off.put (a := f)).ex hf5 upd_same
      have s6 : Same H (upd H5 f (.lst (zs ++ [.ref t]))) := jr_same.put s5 nf
      have hf6 : (upd H5 f (.lst (zs ++ [.ref t]))) f = some (.lst (zs ++ [.ref t])) := upd_same
      have hw6 : (upd H5 f (.lst (zs ++ [.ref t]))) w0 = some (.lst ws0) := by rw [upd_ne (Ne.symm nfw)]; exact hw5
      generalize upd H5 f (.lst (zs ++ [.ref t])) = H6 at x6 s6 hf6 hw6 ⊢
      have rz6 := (RddAll.ex x6 _ rz5).snoc (Rdd.ex x6 _ rx5)
      have rw6 := RddAll.ex x6 _ rw5
      have rx6 := Rdd.ex x6 _ rx5
      obtain ⟨t', et, ht6⟩ := pd_tup rx6
      cases et
      refine ⟨.ref w0, rfl, .inl ⟨rfl, _, SqL.of hw6⟩, v, rfl, .ref t, rfl, v, d, t, q0, n, rfl, Rdd.ex (.same s6) _ hv, ho, ht6, pq0, fun r H7 s7 rr => ⟨r, subD q0 d, rfl, rr, o1'.1.1, fun r2 H8 s8 rr2 => ?_⟩⟩
      obtain ⟨b, us, rfl, hb, hus, _⟩ := rr2.tupd'
      have lus := hus.length
      have s68 := s7.trans s8
      refine ⟨b, us, rfl, .inr hb, us.length, rfl, by omega, by omega, fun D0 nD => ?_⟩
      refine lcJR (K := K) (J := Same) (Pd := fun i x => x = pd (q0 ++ [i])) jr_same (Same.refl _) (by omega) nD ?_ ?_
      · intro i H9 Q9 Z9 hi s9 hQ
        refine ⟨rfl, ?_⟩
        refine iteT (B := Z9 H9) ⟨.ref t, rfl, _, rfl, (by show 1 ≤ sizeLine; decide), fun a na => ?_⟩
        have sa := Same.new (o := .tup [V.int (0 + (i : Int))]) na
        have ha : (upd H9 a (.tup [V.int (0 + (i : Int))])) a = some (.tup [V.int (0 + (i : Int))]) := upd_same
        generalize upd H9 a (.tup [V.int (0 + (i : Int))]) = Ha at sa ha ⊢
        rw [show (0 : Int) + (i : Int) = ((i : Nat) : Int) by omega] at ha
        have s6a := (s68.trans s9).trans sa
        have hta := (Ex.same s6a).tup ht6
        have lq : q0.length ≤ 9 := by omega
        refine ⟨t, a, _, _, rfl, rfl, hta, SqT.of ha, by rw [List.length_map]; simp; omega, fun z => ?_, (fun _ z => by cases z), fun z _ c nc => ?_⟩
        · have eq0 : q0 = [] := List.map_eq_nil_iff.mp z
          subst eq0
          exact hQ _ _ _ sa (tup_pd (p := [i]) (SqT.of ha) (by simp)) rfl
        · have sc := Same.new (o := .tup ((q0.map fun i => V.int (i : Nat)) ++ [V.int (i : Nat)])) nc
          refine hQ _ _ _ (sa.trans sc) (tup_pd (p := q0 ++ [i]) (SqT.of ?_) (by rw [List.length_append]; simp; omega)) rfl
          rw [List.map_append]
          exact upd_same
      · intro H9 accs ds s9 hD ra la hds
        have eds : ds = ((List.range us.length).map fun i => q0 ++ [i]).map pd := by
          refine List.ext_getElem? fun i => ?_
          rw [List.getElem?_map, List.getElem?_map]
          by_cases hi : i < us.length
          · rw [List.getElem?_range hi, List.getElem?_eq_getElem (show i < ds.length by omega)]
            exact congrArg some (hds i _ (List.getElem?_eq_getElem (show i < ds.length by omega)))
          · rw [List.getElem?_eq_none (by omega), List.getElem?_eq_none (by rw [List.length_range]; omega)]
            rfl
        subst eds
        have s69 := s68.trans s9
        have hw9 := s69 _ _ hw6
        have lr := ra.length
        rw [List.length_map, List.length_map, List.length_range] at lr
        have lw := rw0.length
        rw [List.length_map] at lw
        have oq := oksum qs0 fun p hp => okq p (List.mem_append_left _ hp)
        rw [totq] at tot
        refine ⟨w0, D0, ws0, accs, rfl, rfl, hw9, hD, by omega, ?_⟩
        have xA : Ex H9 (upd H9 w0 (.lst (ws0 ++ accs))) := (Off.put (a := w0)).ex hw9 upd_same
        have psn : ∀ i e, (inn (subD q0 d))[i]? = some e → PathOf (q0 ++ [i]) d ∧ subD (q0 ++ [i]) d = e := fun i e he => path_snoc pq0 he
        have sumr : (((List.range us.length).map fun i => q0 ++ [i]).map C).sum = ((inn (subD q0 d)).map (cnt m1)).sum := by
          rw [List.map_map, lus]
          congr 1
          refine range_map _ fun i e he => ?_
          show cnt (n - (q0 ++ [i]).length) (subD (q0 ++ [i]) d) = cnt m1 e
          rw [(psn i e he).2, List.length_append]
          congr 1
          simp
          omega
        refine ⟨_, ?_, _, zs ++ [.ref t], ps ++ [q0], ws0 ++ accs, qs0 ++ (List.range us.length).map fun i => q0 ++ [i], rfl, jr_same.put (s6.trans s69) nw, by rw [upd_ne nfw]; exact s69 _ _ hf6, upd_same, ?_, ?_, ?_, ?_, ?_, rfl, .inr ?_⟩
        · rw [sum_snoc, sumr, totq]
          omega
        · rw [List.map_append]
          exact RddAll.ex xA _ (RddAll.ex (.same s69) _ rz6)
        · rw [List.map_append]
          exact (RddAll.ex xA _ (RddAll.ex (.same s69) _ rw6)).app' (RddAll.ex xA _ ra)
        · intro p hp
          rcases List.mem_append.mp hp with hp | hp
          · exact okp p hp
          · rw [List.mem_singleton.mp hp]
            exact pq0
        · intro p hp
          rcases List.mem_append.mp hp with hp | hp
          · exact okq p (List.mem_append_left _ hp)
          · obtain ⟨i, hi, rfl⟩ := List.mem_map.mp hp
            have hi' := List.mem_range.mp hi
            exact (psn i _ (List.getElem?_eq_getElem (by omega))).1
        · rw [sum_snoc, sumr, List.length_append]
          simp
          omega
        · rcases first with ⟨rfl, e1⟩ | e1
          · have e2 : qs0 = [] ∧ q0 = [] := by
              cases qs0 with
              | nil => exact ⟨rfl, (List.cons.inj e1).1⟩
              | cons a l =>
                have := congrArg List.length e1
                simp at this
            rw [e2.2]
            rfl
          · rw [List.getElem?_append_left (List.getElem?_eq_some_iff.mp e1).1]
            exact e1
    · have qe : qs = [] := by
        cases qs with
        | nil => rfl
        | cons a b =>
          have := rw'.length
          cases ws with
          | nil => simp at this
          | cons _ _ => exact absurd rfl e
      subst qe
      have f0 : ps[0]? = some [] := by
        rcases first with ⟨_, e1⟩ | e1
        · cases e1
        · exact e1
      have tot' : ps.length = cnt n d := tot
      obtain ⟨x0, hx0, rx0⟩ := rz4.at (i := 0) (d := pd []) (by rw [List.getElem?_map, f0]; rfl)
      obtain ⟨t1, rfl, ht1⟩ := pd_tup rx0
      refine ⟨.ref f, rfl, f, zs, rfl, SqL.of hf4, fun x hx => ?_, ⟨t1, hx0, ht1⟩, fun ys p hp np => ?_⟩
      · obtain ⟨i, hi, rfl⟩ := List.getElem_of_mem hx
        obtain ⟨d1, hd1, rd1⟩ := rz4.get (List.getElem?_eq_getElem hi)
        rw [List.getElem?_map] at hd1
        obtain ⟨p1, _, rfl⟩ := Option.map_eq_some_iff.mp hd1
        obtain ⟨t2, e2, ht2⟩ := pd_tup rd1
        refine ⟨t2, p1.map fun i => ((i : Nat) : Int), e2, ?_⟩
        rw [List.map_map]
        exact ht2
      · obtain ⟨qs, hq, rq⟩ := rdd_perm pd hp ps rz4
        have sp := Same.new (o := .lst ys) np
        exact q p ys qs _ (s4.trans sp) (s4.fr np) upd_same (RddAll.ex (.same sp) _ rq) (fun z hz => okp z (hq.mem_iff.mp hz)) (hq.length_eq.trans tot')
end
end Sl

set_option Elab.async false
set_option linter.all false
set_option maxRecDepth 100000
set_option maxHeartbeats 400000
/-! ## The paths of an open term, ascending -/
namespace Sl
open PySem PySem.Spec PyProof.Rows L2
def lexN : List Nat → List Nat → Bool
  | [], [] => false
  | [], _ :: _ => true
  | _ :: _, [] => false
  | x :: p, y :: q => decide (x < y) || (decide (x = y) && lexN p q)
def ppL : Nat → List (List (List Nat)) → List (List Nat)
  | _, [] => []
  | k, l :: ls => l.map (k :: ·) ++ ppL (k + 1) ls
def pp : Nat → D → List (List Nat)
  | 0, _ => []
  | n + 1, d => [] :: ppL 0 ((inn d).map (pp n))
theorem ppL_mem : ∀ {ls : List (List (List Nat))} {k : Nat} {q : List Nat}, q ∈ ppL k ls ↔ ∃ i p l, ls[i]? = some l ∧ p ∈ l ∧ q = (k + i) :: p
  | [], k, q => by
    constructor
    · intro h
      cases h
    · rintro ⟨i, p, l, h, _⟩
      simp at h
  | l :: ls, k, q => by
    show q ∈ l.map (k :: ·) ++ ppL (k + 1) ls ↔ _
    rw [List.mem_append]
    constructor
    · rintro (h | h)
      · obtain ⟨p, hp, rfl⟩ := List.mem_map.mp h
        exact ⟨0, p, l, rfl, hp, rfl⟩
      · obtain ⟨i, p, l2, h1, h2, rfl⟩ := ppL_mem.mp h
        exact ⟨i + 1, p, l2, h1, h2, by rw [show k + 1 + i = k + (i + 1) by omega]⟩
    · rintro ⟨i, p, l2, h1, h2, rfl⟩
      cases i with
      | zero =>
        have e : l = l2 := Option.some.inj h1
        subst e
        exact .inl (List.mem_map.mpr ⟨p, h2, rfl⟩)
      | succ i => exact .inr (ppL_mem.mpr ⟨i, p, l2, h1, h2, by rw [show k + 1 + i = k + (i + 1) by omega]⟩)
theorem lexN_cons (x : Nat) (p q : List Nat) : lexN (x :: p) (x :: q) = lexN p q := by
  show (decide (x < x) || (decide (x = x) && lexN p q)) = _
  simp
theorem lexN_lt {x y : Nat} (h : x < y) (p q : List Nat) : lexN (x :: p) (y :: q) = true := by
  show (decide (x < y) || _) = true
  rw [decide_eq_true h]
  rfl
theorem ppL_asc : ∀ {ls : List (List (List Nat))} {k : Nat}, (∀ l ∈ ls, l.Pairwise fun p q => lexN p q = true) → (ppL k ls).Pairwise fun p q => lexN p q = true
  | [], _, _ => List.Pairwise.nil
  | l :: ls, k, h => by
    refine List.pairwise_append.mpr ⟨List.pairwise_map.mpr ((h l List.mem_cons_self).imp fun {p q} z => ?_), ppL_asc fun x hx => h x (List.mem_cons_of_mem _ hx), fun p hp q hq => ?_⟩
    · rw [lexN_cons]
      exact z
    · obtain ⟨p', _, rfl⟩ := List.mem_map.mp hp
      obtain ⟨i, q', _, _, _, rfl⟩ := ppL_mem.mp hq
      exact lexN_lt (by omega) _ _
theorem pp_asc : ∀ (n : Nat) (d : D), (pp n d).Pairwise fun p q => lexN p q = true
  | 0, _ => List.Pairwise.nil
  | n + 1, d => by
    refine List.pairwise_cons.mpr ⟨fun q hq => ?_, ppL_asc fun l hl => ?_⟩
    · obtain ⟨i, p, l, _, _, rfl⟩ := ppL_mem.mp hq
      rfl
    · obtain ⟨e, _, rfl⟩ := List.mem_map.mp hl
      exact pp_asc n e
theorem ppL_len : ∀ (ls : List (List (List Nat))) (k : Nat), (ppL k ls).length = (ls.map List.length).sum
  | [], _ => rfl
  | l :: ls, k => by
    show (l.map (k :: ·) ++ ppL (k + 1) ls).length = _
    rw [List.length_append, List.length_map, ppL_len ls (k + 1), List.map_cons, List.sum_cons]
theorem pp_len : ∀ (n : Nat) (d : D), (pp n d).length = cnt n d
  | 0, _ => rfl
  | n + 1, d => by
    show (ppL 0 ((inn d).map (pp n))).length + 1 = _
    rw [ppL_len, cnt_s, List.map_map]
    have e : (inn d).map (List.length ∘ pp n) = (inn d).map (cnt n) := List.map_congr_left fun e _ => pp_len n e
    rw [e]
    omega
theorem pp_iff : ∀ {n : Nat} {d : D} {p : List Nat}, OpN n d → (p ∈ pp n d ↔ PathOf p d)
  | 0, _, _, h => h.elim
  | n + 1, d, [], h => ⟨fun _ => trivial, fun _ => List.mem_cons_self⟩
  | n + 1, d, i :: p, h => by
    have om := OpN.s.mp h
    show i :: p ∈ [] :: ppL 0 ((inn d).map (pp n)) ↔ ∃ e, (inn d)[i]? = some e ∧ PathOf p e
    constructor
    · intro hm
      rcases List.mem_cons.mp hm with z | z
      · cases z
      · obtain ⟨j, q, l, h1, h2, h3⟩ := ppL_mem.mp z
        rw [Nat.zero_add] at h3
        obtain ⟨rfl, rfl⟩ := List.cons.inj h3
        rw [List.getElem?_map] at h1
        obtain ⟨e, he, rfl⟩ := Option.map_eq_some_iff.mp h1
        exact ⟨e, he, (pp_iff (om.2 e (List.mem_of_getElem? he))).mp h2⟩
    · rintro ⟨e, he, hp⟩
      refine List.mem_cons_of_mem _ (ppL_mem.mpr ⟨i, p, pp n e, ?_, (pp_iff (om.2 e (List.mem_of_getElem? he))).mpr hp, by rw [Nat.zero_add]⟩)
      rw [List.getElem?_map, he]
      rfl
theorem lexN_irr : ∀ p : List Nat, lexN p p = false
  | [] => rfl
  | x :: p => by rw [lexN_cons, lexN_irr p]
theorem pp_nodup (n : Nat) (d : D) : (pp n d).Nodup := List.nodup_iff_pairwise_ne.mpr ((pp_asc n d).imp fun {p q} h => fun z => by rw [z, lexN_irr] at h; cases h)
/-- the paths that begin with w, ascending -/
def pre (n : Nat) (d : D) (w : List Nat) : List (List Nat) := (pp (n - w.length) (subD w d)).map (w ++ ·)
theorem ppL_range : ∀ (ls : List (List (List Nat))) (k : Nat), ppL k ls = (List.range ls.length).flatMap fun i => ((ls[i]?).getD []).map ((k + i) :: ·)
  | [], _ => rfl
  | l :: ls, k => by
    show l.map (k :: ·) ++ ppL (k + 1) ls = _
    rw [ppL_range ls (k + 1), List.length_cons, List.range_succ_eq_map, List.flatMap_cons, List.flatMap_map]
    refine congrArg (l.map ((k + 0) :: ·) ++ ·) ?_
    refine congrArg List.flatten (List.map_congr_left fun i _ => ?_)
    show _ = ((((l :: ls)[i + 1]?).getD []).map ((k + (i + 1)) :: ·))
    rw [List.getElem?_cons_succ, show k + 1 + i = k + (i + 1) by omega]
/-- a part's paths: its own, then those of what is in it: what is pushed last comes out first -/
theorem pre_step {n : Nat} {d : D} {w : List Nat} (h : PathOf w d) (o : OpN n d) : pre n d w = w :: (List.range (inn (subD w d)).length).flatMap fun i => pre n d (w ++ [i]) := by
  have s := sub_ok h o
  obtain ⟨m, hm⟩ : ∃ m, n - w.length = m + 1 := ⟨n - w.length - 1, by omega⟩
  unfold pre
  rw [hm]
  show ([] :: ppL 0 ((inn (subD w d)).map (pp m))).map (w ++ ·) = _
  rw [List.map_cons, List.append_nil, ppL_range, List.length_map, List.map_flatMap]
  refine congrArg (w :: ·) (congrArg List.flatten (List.map_congr_left fun i hi => ?_))
  have hi' := List.mem_range.mp hi
  have he := List.getElem?_eq_getElem hi'
  have e := path_snoc h he
  rw [List.getElem?_map, he, e.2, List.length_append, show n - (w.length + [i].length) = m from by simp; omega]
  show ((pp m _).map ((0 + i) :: ·)).map (w ++ ·) = _
  rw [List.map_map]
  refine List.map_congr_left fun q _ => ?_
  show w ++ ((0 + i) :: q) = w ++ [i] ++ q
  rw [Nat.zero_add, List.append_assoc]
  rfl
/-- Layout's loop: what is numbered, and behind it what the stack holds, are the paths, ascending -/
def LayOk (n : Nat) (d : D) (Q W : List (List Nat)) : Prop := Q ++ W.reverse.flatMap (pre n d) = pp n d ∧ ∀ w ∈ W, PathOf w d
theorem lay_start (n : Nat) (d : D) : LayOk n d [] [[]] := by
  refine ⟨?_, fun w hw => by rw [List.mem_singleton.mp hw]; trivial⟩
  show [] ++ (pre n d [] ++ []) = pp n d
  rw [List.nil_append, List.append_nil]
  unfold pre
  show (pp n d).map (fun p => [] ++ p) = pp n d
  rw [show (fun p : List Nat => [] ++ p) = id from rfl, List.map_id]
theorem lay_step {n : Nat} {d : D} {Q W : List (List Nat)} {w : List Nat} (o : OpN n d) (h : LayOk n d Q (W ++ [w])) : LayOk n d (Q ++ [w]) (W ++ ((List.range (inn (subD w d)).length).reverse.map fun i => w ++ [i])) := by
  have hw := h.2 w (List.mem_append_right _ (List.mem_singleton.mpr rfl))
  refine ⟨?_, fun q hq => ?_⟩
  · rw [← h.1, List.reverse_append, List.reverse_append, List.flatMap_append, List.flatMap_append, ← List.map_reverse, List.reverse_reverse, List.append_assoc]
    refine congrArg (Q ++ ·) ?_
    show [w] ++ (_ ++ _) = (pre n d w ++ []) ++ _
    rw [pre_step hw o, List.append_nil, List.flatMap_map]
    rfl
  · rcases List.mem_append.mp hq with hq | hq
    · exact h.2 q (List.mem_append_left _ hq)
    · obtain ⟨i, hi, rfl⟩ := List.mem_map.mp hq
      have hi' := List.mem_range.mp (List.mem_reverse.mp hi)
      exact (path_snoc hw (List.getElem?_eq_getElem hi')).1
theorem lay_end {n : Nat} {d : D} {Q : List (List Nat)} (h : LayOk n d Q []) : Q = pp n d := by
  have := h.1
  rw [List.reverse_nil, List.flatMap_nil, List.append_nil] at this
  exact this
end Sl

set_option Elab.async false
set_option linter.all false
set_option maxRecDepth 100000
set_option maxHeartbeats 400000
/-! ## The parts of an open term by number -/
namespace Sl
open PySem PySem.Spec PyProof.Rows L2
theorem lexN_asym : ∀ {p q : List Nat}, lexN p q = true → lexN q p = false
  | [], [], h => by cases h
  | [], _ :: _, _ => rfl
  | _ :: _, [], h => by cases h
  | x :: p, y :: q, h => by
    have h' : (decide (x < y) || (decide (x = y) && lexN p q)) = true := h
    show (decide (y < x) || (decide (y = x) && lexN q p)) = false
    simp only [Bool.or_eq_true, Bool.and_eq_true, decide_eq_true_eq] at h'
    rcases h' with h' | ⟨h1, h2⟩
    · rw [decide_eq_false (by omega), decide_eq_false (by omega)]
      rfl
    · rw [decide_eq_false (by omega), lexN_asym h2, Bool.and_false]
      rfl
theorem lexN_app : ∀ (w : List Nat) (p q : List Nat), lexN (w ++ p) (w ++ q) = lexN p q
  | [], _, _ => rfl
  | x :: w, p, q => by
    rw [List.cons_append, List.cons_append, lexN_cons, lexN_app w]
theorem pairwise_at {α : Type} {R : α → α → Prop} {l : List α} (h : l.Pairwise R) {i j : Nat} {x y : α} (hi : l[i]? = some x) (hj : l[j]? = some y) (lt : i < j) : R x y := by
  obtain ⟨hi1, hi2⟩ := List.getElem?_eq_some_iff.mp hi
  obtain ⟨hj1, hj2⟩ := List.getElem?_eq_some_iff.mp hj
  have := List.pairwise_iff_getElem.mp h i j hi1 hj1 lt
  rw [hi2, hj2] at this
  exact this
theorem idx_at {α : Type} [BEq α] [LawfulBEq α] {l : List α} {x : α} (h : x ∈ l) : l[l.idxOf x]? = some x := by
  have hl := List.idxOf_lt_length_iff.mpr h
  rw [List.getElem?_eq_getElem hl, List.getElem_idxOf]
theorem idx_of {α : Type} [BEq α] [LawfulBEq α] {l : List α} {x : α} {i : Nat} (nd : l.Nodup) (h : l[i]? = some x) : l.idxOf x = i := by
  obtain ⟨h1, h2⟩ := List.getElem?_eq_some_iff.mp h
  rw [← h2]
  exact nd.idxOf_getElem i h1
theorem sorted_ext : ∀ {l m : List Nat}, l.Pairwise (· < ·) → m.Pairwise (· < ·) → (∀ x, x ∈ l ↔ x ∈ m) → l = m
  | [], [], _, _, _ => rfl
  | [], y :: m, _, _, h => by have := (h y).mpr List.mem_cons_self; cases this
  | x :: l, [], _, _, h => by have := (h x).mp List.mem_cons_self; cases this
  | x :: l, y :: m, hl, hm, h => by
    obtain ⟨l1, l2⟩ := List.pairwise_cons.mp hl
    obtain ⟨m1, m2⟩ := List.pairwise_cons.mp hm
    have e : x = y := by
      have a := (h x).mp List.mem_cons_self
      have b := (h y).mpr List.mem_cons_self
      rcases List.mem_cons.mp a with a | a
      · exact a
      · rcases List.mem_cons.mp b with b | b
        · exact b.symm
        · have h1 := m1 x a
          have h2 := l1 y b
          omega
    subst e
    refine congrArg (x :: ·) (sorted_ext l2 m2 fun z => ⟨fun hz => ?_, fun hz => ?_⟩)
    · have h1 := l1 z hz
      rcases List.mem_cons.mp ((h z).mp (List.mem_cons_of_mem _ hz)) with e | e
      · omega
      · exact e
    · have h1 := m1 z hz
      rcases List.mem_cons.mp ((h z).mpr (List.mem_cons_of_mem _ hz)) with e | e
      · omega
      · exact e
/-- w ++ [k] is a path just where there is a k-th term -/
theorem path_snoc_iff : ∀ {w : List Nat} {d : D} {k : Nat}, PathOf (w ++ [k]) d ↔ PathOf w d ∧ k < (inn (subD w d)).length
  | [], d, k => by
    constructor
    · rintro ⟨e, he, _⟩
      exact ⟨trivial, (List.getElem?_eq_some_iff.mp he).1⟩
    · rintro ⟨_, h⟩
      exact ⟨_, List.getElem?_eq_getElem h, trivial⟩
  | i :: w, d, k => by
    constructor
    · rintro ⟨e, he, hp⟩
      obtain ⟨h1, h2⟩ := path_snoc_iff.mp hp
      refine ⟨⟨e, he, h1⟩, ?_⟩
      have e1 : subD (i :: w) d = subD w e := by
        show (match (inn d)[i]? with | some e => subD w e | none => d) = _
        rw [he]
      rw [e1]
      exact h2
    · rintro ⟨⟨e, he, hp⟩, hk⟩
      have e1 : subD (i :: w) d = subD w e := by
        show (match (inn d)[i]? with | some e => subD w e | none => d) = _
        rw [he]
      rw [e1] at hk
      exact ⟨e, he, path_snoc_iff.mpr ⟨hp, hk⟩⟩
def isKid (u q : List Nat) : Bool := !q.isEmpty && decide (q.dropLast = u)
/-- the numbers of the parts directly in the one at u, among those that are numbered -/
def kidsQ (Q : List (List Nat)) (u : List Nat) : List Nat := (List.range Q.length).filter fun j => isKid u ((Q[j]?).getD [])
theorem kids_snoc (Q : List (List Nat)) (w u : List Nat) : kidsQ (Q ++ [w]) u = kidsQ Q u ++ if isKid u w = true then [Q.length] else [] := by
  unfold kidsQ
  rw [List.length_append, List.length_singleton, List.range_succ, List.filter_append]
  congr 1
  · refine List.filter_congr fun j hj => ?_
    rw [List.getElem?_append_left (List.mem_range.mp hj)]
  · have e : ((Q ++ [w])[Q.length]?).getD [] = w := by simp
    rw [List.filter_cons, e]
    rfl
theorem kids_none {Q : List (List Nat)} {u : List Nat} (h : ∀ q ∈ Q, isKid u q = false) : kidsQ Q u = [] := by
  refine List.filter_eq_nil_iff.mpr fun j hj => ?_
  have hl := List.mem_range.mp hj
  rw [List.getElem?_eq_getElem hl, Option.getD_some, h _ (List.getElem_mem hl)]
  exact Bool.false_ne_true
theorem kid_iff {u q : List Nat} : isKid u q = true ↔ ∃ k, q = u ++ [k] := by
  unfold isKid
  constructor
  · intro h
    simp only [Bool.and_eq_true, Bool.not_eq_true', decide_eq_true_eq] at h
    have hne : q ≠ [] := fun z => by rw [z] at h; cases h.1
    exact ⟨q.getLast hne, by rw [← h.2, List.dropLast_concat_getLast]⟩
  · rintro ⟨k, rfl⟩
    simp
theorem kids_end {n : Nat} {d : D} {w : List Nat} (o : OpN n d) (hw : PathOf w d) : kidsQ (pp n d) w = (List.range (inn (subD w d)).length).map fun k => (pp n d).idxOf (w ++ [k]) := by
  have nd := pp_nodup n d
  have mem : ∀ k, k < (inn (subD w d)).length → w ++ [k] ∈ pp n d := fun k hk => (pp_iff o).mpr (path_snoc_iff.mpr ⟨hw, hk⟩)
  refine sorted_ext ?_ ?_ fun j => ?_
  · exact List.pairwise_lt_range.filter _
  · refine List.pairwise_map.mpr ((List.pairwise_lt_range (n := (inn (subD w d)).length)).imp_of_mem fun {a b} ha hb lt => ?_)
    have ha' := idx_at (mem a (List.mem_range.mp ha))
    have hb' := idx_at (mem b (List.mem_range.mp hb))
    have lx : lexN (w ++ [a]) (w ++ [b]) = true := by rw [lexN_app]; exact lexN_lt lt [] []
    rcases Nat.lt_trichotomy ((pp n d).idxOf (w ++ [a])) ((pp n d).idxOf (w ++ [b])) with h | h | h
    · exact h
    · rw [h, hb'] at ha'
      rw [Option.some.inj ha', lexN_irr] at lx
      cases lx
    · have := pairwise_at (pp_asc n d) hb' ha' h
      rw [lexN_asym lx] at this
      cases this
  · unfold kidsQ
    rw [List.mem_filter, List.mem_range, List.mem_map]
    constructor
    · rintro ⟨hj, hk⟩
      rw [List.getElem?_eq_getElem hj, Option.getD_some] at hk
      obtain ⟨k, hk⟩ := kid_iff.mp hk
      have hp : PathOf (w ++ [k]) d := (pp_iff o).mp (by rw [← hk]; exact List.getElem_mem hj)
      refine ⟨k, List.mem_range.mpr (path_snoc_iff.mp hp).2, idx_of nd ?_⟩
      rw [← hk]
      exact List.getElem?_eq_getElem hj
    · rintro ⟨k, hk, rfl⟩
      have hk' := List.mem_range.mp hk
      have e := idx_at (mem k hk')
      refine ⟨(List.getElem?_eq_some_iff.mp e).1, ?_⟩
      rw [e, Option.getD_some]
      exact kid_iff.mpr ⟨k, rfl⟩
def D.isU : D → Bool
  | .tup [_, _] => true
  | _ => false
/-! ### what names stand for -/
abbrev Env := Str → Option (Nat × Option Nat)
def belowE : D → Nat → Env → Env
  | .tup [.str s, .str x, _], num, e => if s = "fun" then (fun y => if y = x then some (num, none) else e y) else e
  | .tup [.str _, .tup l, _], num, e => fun y => if y ∈ l.map D.fst then some (num, some ((l.map D.fst).idxOf y)) else e y
  | _, _, e => e
theorem below_U (x : Str) (num : Nat) (e : Env) : belowE (mkU x) num e = e := rfl
theorem below_W (x : Str) (l : List D) (num : Nat) (e : Env) : belowE (mkW x l) num e = e := by
  show (if ("word" : Str) = "fun" then (fun y => if y = x then some (num, none) else e y) else e) = e
  rw [if_neg (by decide +kernel)]
theorem below_F (x : Str) (b : D) (num : Nat) (e : Env) : belowE (mkF x b) num e = fun y => if y = x then some (num, none) else e y := by
  show (if ("fun" : Str) = "fun" then (fun y => if y = x then some (num, none) else e y) else e) = _
  rw [if_pos rfl]
theorem below_L (ps : List (Str × D)) (b : D) (num : Nat) (e : Env) : belowE (mkL ps b) num e = fun y => if y ∈ ps.map (·.1) then some (num, some ((ps.map (·.1)).idxOf y)) else e y := by
  show (fun y => if y ∈ (mkPs ps).map D.fst then some (num, some (((mkPs ps).map D.fst).idxOf y)) else e y) = _
  rw [mkPs_fst]
def envGo (N : List (List Nat)) : List Nat → List Nat → D → Env → Env
  | _, [], _, e => e
  | u, i :: p, d, e => envGo N (u ++ [i]) p (((inn d)[i]?).getD d) (belowE d (N.idxOf u) e)
def envP (N : List (List Nat)) (d : D) (w : List Nat) : Env := envGo N [] w d fun _ => none
theorem envGo_snoc (N : List (List Nat)) : ∀ {w u : List Nat} {d : D} {e : Env} {k : Nat}, PathOf w d → envGo N u (w ++ [k]) d e = belowE (subD w d) (N.idxOf (u ++ w)) (envGo N u w d e)
  | [], u, d, e, k, _ => by
    rw [List.append_nil]
    rfl
  | i :: w, u, d, e, k, ⟨c, hc, hp⟩ => by
    have e1 : subD (i :: w) d = subD w c := by
      show (match (inn d)[i]? with | some e => subD w e | none => d) = _
      rw [hc]
    show envGo N (u ++ [i]) (w ++ [k]) (((inn d)[i]?).getD d) (belowE d (N.idxOf u) e) = belowE (subD (i :: w) d) (N.idxOf (u ++ i :: w)) (envGo N (u ++ [i]) w (((inn d)[i]?).getD d) (belowE d (N.idxOf u) e))
    rw [hc, Option.getD_some, envGo_snoc N hp, e1, List.append_assoc]
    rfl
theorem envP_snoc {N : List (List Nat)} {d : D} {w : List Nat} {k : Nat} (h : PathOf w d) : envP N d (w ++ [k]) = belowE (subD w d) (N.idxOf w) (envP N d w) := envGo_snoc N h
def optD : Option (Nat × Option Nat) → D
  | none => .non
  | some (b, none) => .tup [.int b, .non]
  | some (b, some k) => .tup [.int b, .int k]
/-- what the use at w stands for; None for all else -/
def ownD (N : List (List Nat)) (d : D) (w : List Nat) : D := match subD w d with
  | .tup [_, .str x] => optD (envP N d w x)
  | _ => .non
theorem own_U {N : List (List Nat)} {d : D} {w : List Nat} {x : Str} (h : subD w d = mkU x) : ownD N d w = optD (envP N d w x) := by
  unfold ownD
  rw [h]
  rfl
theorem own_not {N : List (List Nat)} {d : D} {w : List Nat} (h : (subD w d).isU = false) (hb : built (subD w d) = true) : ownD N d w = .non := by
  unfold ownD
  rcases built_cases hb with ⟨x, e, _⟩ | ⟨x, l, e, _⟩ | ⟨x, b, e, _⟩ | ⟨ps, b, e, _⟩
  · rw [e] at h
    cases h
  · rw [e]
    rfl
  · rw [e]
    rfl
  · rw [e]
    rfl
end Sl

set_option Elab.async false
set_option linter.all false
set_option maxRecDepth 100000
set_option maxHeartbeats 400000
/-! ## Binders and heads, by paths -/
namespace Sl
open PySem PySem.Spec PyProof.Rows L2
theorem snoc_ind' {P : List Nat → Prop} (h0 : P []) (hs : ∀ u k, P u → P (u ++ [k])) : ∀ w, P w := by
  have key : ∀ n w, w.length = n → P w := by
    intro n
    induction n with
    | zero =>
      intro w h
      rw [List.length_eq_zero_iff.mp h]
      exact h0
    | succ n ih =>
      intro w h
      rcases List.eq_nil_or_concat w with rfl | ⟨u, k, rfl⟩
      · exact h0
      · rw [List.concat_eq_append] at h ⊢
        exact hs u k (ih u (by rw [List.length_append, List.length_singleton] at h; omega))
  exact fun w => key _ w rfl
theorem path_pre : ∀ {a b : List Nat} {d : D}, PathOf (a ++ b) d → PathOf a d
  | [], _, _, _ => trivial
  | i :: a, b, d, h => by
    obtain ⟨e, he, hp⟩ := h
    exact ⟨e, he, path_pre hp⟩
theorem path_take {w : List Nat} {d : D} (h : PathOf w d) (t : Nat) : PathOf (w.take t) d := by
  refine path_pre (b := w.drop t) ?_
  rw [List.take_append_drop]
  exact h
/-- sorts of open terms -/
def shp : D → Nat
  | .tup [_, _] => 0
  | .tup [.str s, _, _] => if s = "word" then 1 else if s = "fun" then 2 else 3
  | _ => 4
theorem shp_U (x : Str) : shp (mkU x) = 0 := rfl
theorem shp_W (x : Str) (l : List D) : shp (mkW x l) = 1 := by
  show (if ("word" : Str) = "word" then 1 else if ("word" : Str) = "fun" then 2 else 3) = 1
  rw [if_pos rfl]
theorem shp_F (x : Str) (b : D) : shp (mkF x b) = 2 := by
  show (if ("fun" : Str) = "word" then 1 else if ("fun" : Str) = "fun" then 2 else 3) = 2
  rw [if_neg (by decide +kernel), if_pos rfl]
theorem shp_L (ps : List (Str × D)) (b : D) : shp (mkL ps b) = 3 := by
  show (if ("let" : Str) = "word" then 1 else if ("let" : Str) = "fun" then 2 else 3) = 3
  rw [if_neg (by decide +kernel), if_neg (by decide +kernel)]
theorem mkU_inj {x y : Str} (h : mkU x = mkU y) : x = y := by
  injection h with h
  injection h with _ h
  injection h with h _
  injection h with h
theorem mkF_inj {x y : Str} {a b : D} (h : mkF x a = mkF y b) : x = y ∧ a = b := by
  injection h with h
  injection h with _ h
  injection h with h1 h
  injection h1 with h1
  injection h with h2 _
  exact ⟨h1, h2⟩
theorem mkW_inj {x y : Str} {a b : List D} (h : mkW x a = mkW y b) : x = y ∧ a = b := by
  injection h with h
  injection h with _ h
  injection h with h1 h
  injection h1 with h1
  injection h with h2 _
  injection h2 with h2
  exact ⟨h1, h2⟩
theorem mkPs_inj' : ∀ {ps qs : List (Str × D)}, mkPs ps = mkPs qs → ps = qs
  | [], [], _ => rfl
  | [], _ :: _, h => by cases h
  | _ :: _, [], h => by cases h
  | (x, a) :: ps, (y, b) :: qs, h => by
    have h' : D.tup [.str x, a] :: mkPs ps = D.tup [.str y, b] :: mkPs qs := h
    injection h' with h1 h2
    rw [mkPs_inj' h2]
    injection h1 with h3
    injection h3 with h4 h5
    injection h4 with h6
    injection h5 with h7
    rw [h6, h7]
theorem mkL_inj' {ps qs : List (Str × D)} {a b : D} (h : mkL ps a = mkL qs b) : ps = qs ∧ a = b := by
  injection h with h
  injection h with _ h
  injection h with h1 h
  injection h1 with h1
  injection h with h2
  exact ⟨mkPs_inj' h1, h2⟩
/-- whether a part binds a name -/
def bnds (x : Str) : D → Bool
  | .tup [.str s, .str y, _] => decide (s = "fun") && decide (y = x)
  | .tup [.str _, .tup l, _] => decide (x ∈ l.map D.fst)
  | _ => false
theorem bnds_U (x y : Str) : bnds x (mkU y) = false := rfl
theorem bnds_W (x y : Str) (l : List D) : bnds x (mkW y l) = false := by
  show (decide (("word" : Str) = "fun") && decide (y = x)) = false
  rw [decide_eq_false (by decide +kernel)]
  rfl
theorem bnds_F (x y : Str) (b : D) : bnds x (mkF y b) = decide (y = x) := by
  show (decide (("fun" : Str) = "fun") && decide (y = x)) = _
  rw [decide_eq_true rfl]
  rfl
theorem mkPs_fst' (ps : List (Str × D)) : (mkPs ps).map D.fst = ps.map (·.1) := by
  unfold mkPs
  rw [List.map_map]
  rfl
theorem bnds_L (x : Str) (ps : List (Str × D)) (b : D) : bnds x (mkL ps b) = decide (x ∈ ps.map (·.1)) := by
  show decide (x ∈ (mkPs ps).map D.fst) = _
  rw [mkPs_fst']
/-- the nearest one ahead that binds x, among the s first heads of the path -/
def bndN (d : D) (w : List Nat) (x : Str) : Nat → Option (List Nat)
  | 0 => none
  | s + 1 => if bnds x (subD (w.take s) d) = true then some (w.take s) else bndN d w x s
def bnd (d : D) (w : List Nat) (x : Str) : Option (List Nat) := bndN d w x w.length
theorem bndN_congr {d : D} {w : List Nat} {k : Nat} {x : Str} : ∀ {s : Nat}, s ≤ w.length → bndN d (w ++ [k]) x s = bndN d w x s
  | 0, _ => rfl
  | s + 1, h => by
    unfold bndN
    rw [List.take_append_of_le_length (by omega), bndN_congr (by omega)]
theorem bnd_snoc (d : D) (w : List Nat) (k : Nat) (x : Str) : bnd d (w ++ [k]) x = if bnds x (subD w d) = true then some w else bnd d w x := by
  unfold bnd
  rw [List.length_append, List.length_singleton]
  show (if bnds x (subD ((w ++ [k]).take w.length) d) = true then some ((w ++ [k]).take w.length) else bndN d (w ++ [k]) x w.length) = _
  rw [bndN_congr (Nat.le_refl _), List.take_append_of_le_length (Nat.le_refl _), List.take_length]
theorem bndN_some {d : D} {w : List Nat} {x : Str} {u : List Nat} : ∀ {s : Nat}, bndN d w x s = some u → ∃ t, t < s ∧ u = w.take t ∧ bnds x (subD u d) = true
  | 0, h => by cases h
  | s + 1, h => by
    unfold bndN at h
    split at h
    · rename_i e
      have := Option.some.inj h
      subst this
      exact ⟨s, by omega, rfl, e⟩
    · obtain ⟨t, h1, h2⟩ := bndN_some h
      exact ⟨t, by omega, h2⟩
theorem bnd_some {d : D} {w : List Nat} {x : Str} {u : List Nat} (h : bnd d w x = some u) : (∃ v, v ≠ [] ∧ w = u ++ v) ∧ bnds x (subD u d) = true := by
  obtain ⟨t, h1, h2, h3⟩ := bndN_some h
  refine ⟨⟨w.drop t, ?_, ?_⟩, h3⟩
  · intro z
    have := congrArg List.length z
    rw [List.length_drop, List.length_nil] at this
    omega
  · rw [h2, List.take_append_drop]
theorem wf_kids' {m : Nat} {xs : List Str} {d : D} {k : Nat} {e : D} (h : WfN (m + 1) xs d) (hk : (inn d)[k]? = some e) :
    ∃ ys, WfN m ys e ∧ ((∃ x l, d = mkW x l ∧ ys = xs) ∨ (∃ x b, d = mkF x b ∧ ys = x :: xs) ∨ ∃ ps b, d = mkL ps b ∧ ys = ps.map (·.1) ++ xs) := by
  rcases h with ⟨x, rfl, _⟩ | ⟨x, l, rfl, hl⟩ | ⟨x, b, rfl, hb⟩ | ⟨ps, b, rfl, hp, hb⟩
  · rw [inn_U] at hk
    cases hk
  · rw [inn_W] at hk
    exact ⟨xs, hl e (List.mem_of_getElem? hk), .inl ⟨x, l, rfl, rfl⟩⟩
  · rw [inn_F] at hk
    have := List.mem_of_getElem? hk
    rw [List.mem_singleton.mp this]
    exact ⟨x :: xs, hb, .inr (.inl ⟨x, b, rfl, rfl⟩)⟩
  · rw [inn_L] at hk
    rcases List.mem_append.mp (List.mem_of_getElem? hk) with h | h
    · obtain ⟨p, hp', rfl⟩ := List.mem_map.mp h
      exact ⟨_, (hp p hp').2, .inr (.inr ⟨ps, b, rfl, rfl⟩)⟩
    · rw [List.mem_singleton.mp h]
      exact ⟨_, hb, .inr (.inr ⟨ps, b, rfl, rfl⟩)⟩
theorem isSome_ite {α : Type} {b : Bool} {x y : Option α} (hx : b = true → x.isSome = true) (hy : b = false → y.isSome = true) : (if b = true then x else y).isSome = true := by
  cases b with
  | true => exact hx rfl
  | false => exact hy rfl
/-- at each path the names that can stand there are bound -/
theorem wf_bnd {m : Nat} {d : D} (h : WfN m [] d) : ∀ w, PathOf w d → ∃ xs k, WfN (k + 1) xs (subD w d) ∧ ∀ y ∈ xs, (bnd d w y).isSome = true := by
  refine snoc_ind' (fun _ => ?_) fun u k ih hp => ?_
  · cases m with
    | zero => exact h.elim
    | succ m => exact ⟨[], m, h, fun y hy => by cases hy⟩
  · obtain ⟨hu, hk⟩ := path_snoc_iff.mp hp
    obtain ⟨xs, j, hw, hy⟩ := ih hu
    have hke := List.getElem?_eq_getElem hk
    have psn := path_snoc hu hke
    obtain ⟨ys, hys, form⟩ := wf_kids' hw hke
    rw [← psn.2] at hys
    cases j with
    | zero => exact hys.elim
    | succ j =>
      refine ⟨ys, j, hys, fun y hyy => ?_⟩
      rw [bnd_snoc]
      refine isSome_ite (fun _ => rfl) fun hb => ?_
      rcases form with ⟨x, l, e, rfl⟩ | ⟨x, b, e, rfl⟩ | ⟨ps, b, e, rfl⟩
      · exact hy y hyy
      · rw [e, bnds_F] at hb
        rcases List.mem_cons.mp hyy with rfl | hyy
        · exact absurd rfl (of_decide_eq_false hb)
        · exact hy y hyy
      · rw [e, bnds_L] at hb
        rcases List.mem_append.mp hyy with hyy | hyy
        · exact absurd hyy (of_decide_eq_false hb)
        · exact hy y hyy
/-- n steps from w to its head h -/
inductive Hd (d : D) : Nat → List Nat → List Nat → Prop
  | Wd {w : List Nat} {x : Str} {l : List D} : subD w d = mkW x l → Hd d 0 w w
  | Fn {w : List Nat} {x : Str} {b : D} : subD w d = mkF x b → Hd d 0 w w
  | Vr {w u : List Nat} {x y : Str} {b : D} : subD w d = mkU x → bnd d w x = some u → subD u d = mkF y b → Hd d 0 w w
  | Lt {n : Nat} {w h : List Nat} {ps : List (Str × D)} {b : D} : subD w d = mkL ps b → Hd d n (w ++ [ps.length]) h → Hd d (n + 1) w h
  | Df {n : Nat} {w u h : List Nat} {x : Str} {ps : List (Str × D)} {b : D} : subD w d = mkU x → bnd d w x = some u → subD u d = mkL ps b → x ∈ ps.map (·.1) → Hd d n (u ++ [(ps.map (·.1)).idxOf x]) h → Hd d (n + 1) w h
theorem last_at' {d : D} {u : List Nat} {ps : List (Str × D)} {e : D} (hu : PathOf u d) (h : subD u d = mkL ps e) : PathOf (u ++ [ps.length]) d ∧ subD (u ++ [ps.length]) d = e := by
  refine path_snoc hu ?_
  rw [h, inn_L, List.getElem?_append_right (by rw [List.length_map]; exact Nat.le_refl _), List.length_map, Nat.sub_self]
  rfl
theorem def_at' {d : D} {u : List Nat} {ps : List (Str × D)} {e : D} {x : Str} (hu : PathOf u d) (h : subD u d = mkL ps e) (hx : x ∈ ps.map (·.1)) : PathOf (u ++ [(ps.map (·.1)).idxOf x]) d ∧ ∃ p ∈ ps, subD (u ++ [(ps.map (·.1)).idxOf x]) d = p.2 := by
  have hk := idx_at hx
  rw [List.getElem?_map] at hk
  obtain ⟨p, hp, _⟩ := Option.map_eq_some_iff.mp hk
  have : PathOf (u ++ [(ps.map (·.1)).idxOf x]) d ∧ subD (u ++ [(ps.map (·.1)).idxOf x]) d = p.2 := by
    refine path_snoc hu ?_
    rw [h, inn_L, List.getElem?_append_left (by rw [List.length_map]; exact (List.getElem?_eq_some_iff.mp hp).1), List.getElem?_map, hp]
    rfl
  exact ⟨this.1, p, List.mem_of_getElem? hp, this.2⟩
theorem bnd_path {d : D} {w u : List Nat} {x : Str} (hw : PathOf w d) (h : bnd d w x = some u) : PathOf u d := by
  obtain ⟨⟨v, _, e⟩, _⟩ := bnd_some h
  rw [e] at hw
  exact path_pre hw
theorem Hd.path {d : D} {n : Nat} {w h : List Nat} (hd : Hd d n w h) (hw : PathOf w d) : PathOf h d := by
  induction hd with
  | Wd _ => exact hw
  | Fn _ => exact hw
  | Vr _ _ _ => exact hw
  | Lt e _ ih => exact ih (last_at' hw e).1
  | Df e hb e2 hx _ ih => exact ih (def_at' (bnd_path hw hb) e2 hx).1
/-- what heads are -/
def IsHd (d : D) (h : List Nat) : Prop := (∃ x l, subD h d = mkW x l) ∨ (∃ x b, subD h d = mkF x b) ∨ ∃ x u b, subD h d = mkU x ∧ bnd d h x = some u ∧ subD u d = mkF x b
theorem Hd.is {d : D} {n : Nat} {w h : List Nat} (hd : Hd d n w h) : IsHd d h := by
  induction hd with
  | Wd e => exact .inl ⟨_, _, e⟩
  | Fn e => exact .inr (.inl ⟨_, _, e⟩)
  | @Vr w u x y b e hb e2 =>
    have := (bnd_some hb).2
    rw [e2, bnds_F] at this
    have := of_decide_eq_true this
    subst this
    exact .inr (.inr ⟨_, u, b, e, hb, e2⟩)
  | Lt _ _ ih => exact ih
  | Df _ _ _ _ _ ih => exact ih
/-- a function around the head is around the part -/
theorem Hd.inside {d : D} {n : Nat} {w h q : List Nat} {x : Str} {b : D} (hd : Hd d n w h) (hq : subD q d = mkF x b) (hi : ∃ v, v ≠ [] ∧ h = q ++ v) : ∃ v, v ≠ [] ∧ w = q ++ v := by
  have snoc : ∀ {u : List Nat} {k : Nat} {ps : List (Str × D)} {c : D}, subD u d = mkL ps c → (∃ v, v ≠ [] ∧ u ++ [k] = q ++ v) → ∃ v, v ≠ [] ∧ u = q ++ v := fun {u k ps c} hu ⟨v, hv, e⟩ => by
    rcases List.eq_nil_or_concat v with rfl | ⟨v1, j, rfl⟩
    · exact absurd rfl hv
    · rw [List.concat_eq_append, ← List.append_assoc] at e
      have e1 := (List.append_inj' e rfl).1
      refine ⟨v1, fun z => ?_, e1⟩
      rw [z, List.append_nil] at e1
      rw [e1, hq] at hu
      have := congrArg shp hu
      rw [shp_F, shp_L] at this
      cases this
  induction hd with
  | Wd _ => exact hi
  | Fn _ => exact hi
  | Vr _ _ _ => exact hi
  | Lt e _ ih => exact snoc e (ih hi)
  | Df e hb e2 _ _ ih =>
    obtain ⟨v, hv, e3⟩ := snoc e2 (ih hi)
    obtain ⟨⟨v2, h2, e4⟩, _⟩ := bnd_some hb
    exact ⟨v ++ v2, fun z => hv (List.append_eq_nil_iff.mp z).1, by rw [e4, e3, List.append_assoc]⟩
section
variable {m : Nat} {d : D} (wf : WfN m [] d)
include wf in
theorem wf_block' {u : List Nat} {ps : List (Str × D)} {e : D} (hu : PathOf u d) (hs : subD u d = mkL ps e) :
    ∃ xs k, (∀ p ∈ ps, Hdd (ps.map (·.1)) p.2 ∧ WfN k (ps.map (·.1) ++ xs) p.2) ∧ ∀ y ∈ xs, (bnd d u y).isSome = true := by
  obtain ⟨xs, k, hw, hy⟩ := wf_bnd wf u hu
  rw [hs] at hw
  rcases hw with ⟨x, e1, _⟩ | ⟨x, l, e1, _⟩ | ⟨x, b, e1, _⟩ | ⟨qs, b, e1, hp, hb⟩
  · cases e1
  · have := congrArg shp e1
    rw [shp_L, shp_W] at this
    cases this
  · have := congrArg shp e1
    rw [shp_L, shp_F] at this
    cases this
  · obtain ⟨e2, _⟩ := mkL_inj' e1
    subst e2
    exact ⟨xs, k, hp, hy⟩
theorem WfN.useIn {k : Nat} {xs : List Str} {y : Str} (h : WfN k xs (mkU y)) : y ∈ xs := by
  cases k with
  | zero => exact h.elim
  | succ k =>
    rcases h with ⟨z, ez, hz⟩ | ⟨z, l, ez, _⟩ | ⟨z, c, ez, _⟩ | ⟨qs, c, ez, _⟩
    · rw [mkU_inj ez]
      exact hz
    · cases ez
    · cases ez
    · cases ez
theorem binds_cases {x : Str} {e : D} {k : Nat} {xs : List Str} (hw : WfN k xs e) (h : bnds x e = true) : (∃ b, e = mkF x b) ∨ ∃ ps b, e = mkL ps b ∧ x ∈ ps.map (·.1) := by
  cases k with
  | zero => exact hw.elim
  | succ k =>
    rcases hw with ⟨z, rfl, _⟩ | ⟨z, l, rfl, _⟩ | ⟨z, c, rfl, _⟩ | ⟨ps, c, rfl, _⟩
    · cases h
    · rw [bnds_W] at h
      cases h
    · rw [bnds_F] at h
      rw [of_decide_eq_true h]
      exact .inl ⟨c, rfl⟩
    · rw [bnds_L] at h
      exact .inr ⟨ps, c, rfl, of_decide_eq_true h⟩
include wf in
/-- what a use is bound by -/
theorem bnd_cases {w u : List Nat} {x : Str} (hw : PathOf w d) (h : bnd d w x = some u) : (∃ b, subD u d = mkF x b) ∨ ∃ ps b, subD u d = mkL ps b ∧ x ∈ ps.map (·.1) := by
  obtain ⟨xs, k, h1, _⟩ := wf_bnd wf u (bnd_path hw h)
  exact binds_cases h1 (bnd_some h).2
include wf in
theorem use_head : ∀ (B : Nat) (w u : List Nat) (x : Str), u.length < B → PathOf w d → subD w d = mkU x → bnd d w x = some u → ∃ n h, Hd d n w h
  | 0, _, _, _, hb, _, _, _ => absurd hb (by omega)
  | B + 1, w, u, x, hB, hw, hs, hb => by
    have hu := bnd_path hw hb
    rcases bnd_cases wf hw hb with ⟨b, e⟩ | ⟨ps, b, e, hx⟩
    · exact ⟨0, w, .Vr hs hb e⟩
    · obtain ⟨hp, p, hpm, ep⟩ := def_at' hu e hx
      obtain ⟨xs, k, hdefs, hxs⟩ := wf_block' wf hu e
      obtain ⟨hh, hwf⟩ := hdefs p hpm
      have go : ∃ n h, Hd d n (u ++ [(ps.map (·.1)).idxOf x]) h := by
        rcases hh with ⟨y, ey, hy⟩ | ⟨y, l, ey⟩ | ⟨y, c, ey⟩
        · rw [ey] at hwf
          have hyx : y ∈ xs := (List.mem_append.mp hwf.useIn).resolve_left hy
          obtain ⟨u2, hu2⟩ := Option.isSome_iff_exists.mp (hxs y hyx)
          have hb2 : bnd d (u ++ [(ps.map (·.1)).idxOf x]) y = some u2 := by
            rw [bnd_snoc, e, bnds_L, if_neg (fun z => hy (of_decide_eq_true z))]
            exact hu2
          obtain ⟨⟨v, hv, e3⟩, _⟩ := bnd_some hu2
          have : u2.length < u.length := by
            rw [e3, List.length_append]
            have := List.length_pos_iff.mpr hv
            omega
          exact use_head B _ u2 y (by omega) hp (ep.trans ey) hb2
        · exact ⟨0, _, .Wd (ep.trans ey)⟩
        · exact ⟨0, _, .Fn (ep.trans ey)⟩
      obtain ⟨n, h, hd⟩ := go
      exact ⟨n + 1, h, .Df hs hb e hx hd⟩
include wf in
theorem use_bound {w : List Nat} {x : Str} (hw : PathOf w d) (hs : subD w d = mkU x) : ∃ u, bnd d w x = some u := by
  obtain ⟨xs, k, h1, h2⟩ := wf_bnd wf w hw
  rw [hs] at h1
  exact Option.isSome_iff_exists.mp (h2 x h1.useIn)
include wf in
theorem part_head : ∀ (k : Nat) (w : List Nat) (xs : List Str), PathOf w d → WfN k xs (subD w d) → ∃ n h, Hd d n w h
  | 0, _, _, _, hk => hk.elim
  | k + 1, w, xs, hw, hk => by
    rcases id hk with ⟨x, e, hx⟩ | ⟨x, l, e, _⟩ | ⟨x, b, e, _⟩ | ⟨ps, b, e, _, hb⟩
    · obtain ⟨u, hu⟩ := use_bound wf hw e
      exact use_head wf _ w u x (Nat.lt_succ_self _) hw e hu
    · exact ⟨_, _, .Wd e⟩
    · exact ⟨_, _, .Fn e⟩
    · obtain ⟨h1, h2⟩ := last_at' hw e
      rw [← h2] at hb
      obtain ⟨n, h, hh⟩ := part_head k (w ++ [ps.length]) _ h1 hb
      exact ⟨n + 1, h, .Lt e hh⟩
end
open Classical in
/-- the head of the part at w -/
noncomputable def hdP (d : D) (w : List Nat) : List Nat := if h : ∃ q n, Hd d n w q then choose h else w
theorem hdP_at {m : Nat} {d : D} (wf : WfN m [] d) {w : List Nat} (hw : PathOf w d) : ∃ n, Hd d n w (hdP d w) := by
  obtain ⟨xs, k, h1, _⟩ := wf_bnd wf w hw
  obtain ⟨n, h, hh⟩ := part_head wf _ w xs hw h1
  have ex : ∃ q n, Hd d n w q := ⟨h, n, hh⟩
  unfold hdP
  rw [dif_pos ex]
  exact Classical.choose_spec ex
end Sl

set_option Elab.async false
set_option linter.all false
set_option maxRecDepth 100000
set_option maxHeartbeats 400000
/-! ## The graph of a term -/
namespace Sl
open PySem PySem.Spec PyProof.Rows L2
/-! ### first walks over what is told apart -/
inductive FWg {α : Type} (k : α → List α) : List α → List α → List α → Prop
  | nil {m : List α} : FWg k m [] m
  | old {m st o : List α} {s : α} : s ∈ m → FWg k m st o → FWg k m (s :: st) o
  | new {m st o : List α} {s : α} : s ∉ m → FWg k (m ++ [s]) (k s ++ st) o → FWg k m (s :: st) o
section
variable {α : Type} {k : α → List α}
theorem FWg.nodup {m st o : List α} (h : FWg k m st o) (hm : m.Nodup) : o.Nodup := by
  induction h with
  | nil => exact hm
  | old _ _ ih => exact ih hm
  | @new m st o s hs _ ih =>
    refine ih (List.nodup_append.mpr ⟨hm, by simp, fun a ha b hb => ?_⟩)
    rw [List.mem_singleton.mp hb]
    exact fun z => hs (z ▸ ha)
theorem FWg.sub {m st o : List α} (h : FWg k m st o) : (∀ a ∈ m, a ∈ o) ∧ ∀ a ∈ st, a ∈ o := by
  induction h with
  | nil => exact ⟨fun a h => h, fun a h => by cases h⟩
  | old hs _ ih =>
    refine ⟨ih.1, fun a ha => ?_⟩
    rcases List.mem_cons.mp ha with rfl | ha
    · exact ih.1 _ hs
    · exact ih.2 a ha
  | @new m st o s hs _ ih =>
    have so : s ∈ o := ih.1 s (List.mem_append_right _ (List.mem_singleton.mpr rfl))
    refine ⟨fun a ha => ih.1 a (List.mem_append_left _ ha), fun a ha => ?_⟩
    rcases List.mem_cons.mp ha with rfl | ha
    · exact so
    · exact ih.2 a (List.mem_append_right _ ha)
theorem FWg.closed {m st o : List α} (h : FWg k m st o) (hm : ∀ a ∈ m, ∀ c ∈ k a, c ∈ m ∨ c ∈ st) : ∀ a ∈ o, ∀ c ∈ k a, c ∈ o := by
  induction h with
  | nil =>
    intro a ha c hc
    rcases hm a ha c hc with h | h
    · exact h
    · cases h
  | @old m st o s hs _ ih =>
    refine ih fun a ha c hc => ?_
    rcases hm a ha c hc with h | h
    · exact .inl h
    · rcases List.mem_cons.mp h with rfl | h
      · exact .inl hs
      · exact .inr h
  | @new m st o s hs _ ih =>
    refine ih fun a ha c hc => ?_
    rcases List.mem_append.mp ha with ha | ha
    · rcases hm a ha c hc with h | h
      · exact .inl (List.mem_append_left _ h)
      · rcases List.mem_cons.mp h with rfl | h
        · exact .inl (List.mem_append_right _ (List.mem_singleton.mpr rfl))
        · exact .inr (List.mem_append_right _ h)
    · rw [List.mem_singleton.mp ha] at hc
      exact .inr (List.mem_append_left _ hc)
theorem FWg.all {P : α → Prop} (hk : ∀ a, P a → ∀ c ∈ k a, P c) {m st o : List α} (h : FWg k m st o) (hm : ∀ a ∈ m, P a) (hs : ∀ a ∈ st, P a) : ∀ a ∈ o, P a := by
  induction h with
  | nil => exact hm
  | old _ _ ih => exact ih hm fun i h => hs i (List.mem_cons_of_mem _ h)
  | @new m st o s _ _ ih =>
    refine ih (fun i hi => ?_) (fun i hi => ?_)
    · rcases List.mem_append.mp hi with hi | hi
      · exact hm i hi
      · rw [List.mem_singleton.mp hi]
        exact hs s List.mem_cons_self
    · rcases List.mem_append.mp hi with hi | hi
      · exact hk s (hs s List.mem_cons_self) i hi
      · exact hs i (List.mem_cons_of_mem _ hi)
/-- each but the root has a parent that stands ahead of it -/
def AheadG (k : α → List α) (r : α) (l : List α) : Prop := ∀ (j : Nat) (a : α), l[j]? = some a → a = r ∨ ∃ (i : Nat) (p : α), i < j ∧ l[i]? = some p ∧ a ∈ k p
theorem FWg.ahead {r : α} {m st o : List α} (h : FWg k m st o) (hm : AheadG k r m) (hs : ∀ s ∈ st, s = r ∨ ∃ p ∈ m, s ∈ k p) : AheadG k r o := by
  induction h with
  | nil => exact hm
  | old _ _ ih => exact ih hm fun s h => hs s (List.mem_cons_of_mem _ h)
  | @new m st o s hn _ ih =>
    refine ih (fun j a hj => ?_) (fun c hc => ?_)
    · by_cases hl : j < m.length
      · rw [List.getElem?_append_left hl] at hj
        rcases hm j a hj with e | ⟨i, p, h1, h2, h3⟩
        · exact .inl e
        · exact .inr ⟨i, p, h1, by rw [List.getElem?_append_left (by omega)]; exact h2, h3⟩
      · have e : j = m.length := by
          have := (List.getElem?_eq_some_iff.mp hj).1
          rw [List.length_append, List.length_singleton] at this
          omega
        subst e
        rw [List.getElem?_append_right (Nat.le_refl _), Nat.sub_self] at hj
        cases hj
        rcases hs s List.mem_cons_self with e | ⟨p, hp, hk⟩
        · exact .inl e
        · obtain ⟨i, hi, e⟩ := List.getElem_of_mem hp
          exact .inr ⟨i, p, hi, by rw [List.getElem?_append_left hi, List.getElem?_eq_getElem hi, e], hk⟩
    · rcases List.mem_append.mp hc with hc | hc
      · exact .inr ⟨s, List.mem_append_right _ (List.mem_singleton.mpr rfl), hc⟩
      · rcases hs c (List.mem_cons_of_mem _ hc) with e | ⟨p, hp, hk⟩
        · exact .inl e
        · exact .inr ⟨p, List.mem_append_left _ hp, hk⟩
theorem FWg.head {r : α} {o : List α} (h : FWg k [] [r] o) : o[0]? = some r := by
  have gen : ∀ {m st o : List α}, FWg k m st o → ∀ a, m[0]? = some a → o[0]? = some a := fun {m st o} h => by
    induction h with
    | nil => exact fun a h => h
    | old _ _ ih => exact ih
    | @new m st o s _ _ ih =>
      intro a ha
      refine ih a ?_
      rw [List.getElem?_append_left (List.getElem?_eq_some_iff.mp ha).1]
      exact ha
  cases h with
  | old h _ => cases h
  | new _ h => exact gen h r rfl
theorem FWg.toNat {k' : Nat → List Nat} {f : α → Nat} {m st o : List α} (h : FWg k m st o) (inj : ∀ a b, a ∈ o → b ∈ o → f a = f b → a = b) (hk : ∀ a ∈ o, k' (f a) = (k a).map f) : FW k' (m.map f) (st.map f) (o.map f) := by
  induction h with
  | nil => exact .nil
  | @old m st o s hs hr ih => exact .old (List.mem_map.mpr ⟨s, hs, rfl⟩) (ih inj hk)
  | @new m st o s hs hr ih =>
    have so : s ∈ o := hr.sub.1 s (List.mem_append_right _ (List.mem_singleton.mpr rfl))
    have i3 := ih inj hk
    refine .new (fun z => ?_) ?_
    · obtain ⟨b, hb, e⟩ := List.mem_map.mp z
      exact hs (inj b s (hr.sub.1 b (List.mem_append_left _ hb)) so e ▸ hb)
    · rw [hk s so, ← List.map_append]
      rw [List.map_append] at i3
      exact i3
end
/-! ### what stands for a node -/
/-- (true, path of the function): its variable; (false, path): a word or a function -/
abbrev Ky := Bool × List Nat
def D.useN : D → Str
  | .tup [_, .str x] => x
  | _ => ""
def kyH (d : D) (h : List Nat) : Ky := if shp (subD h d) = 0 then (true, (bnd d h (subD h d).useN).getD []) else (false, h)
noncomputable def ky (d : D) (w : List Nat) : Ky := kyH d (hdP d w)
noncomputable def kk (d : D) (κ : Ky) : List Ky := if κ.1 = true then [] else (List.range (inn (subD κ.2 d)).length).map fun i => ky d (κ.2 ++ [i])
theorem kyH_use {d : D} {h u : List Nat} {x : Str} (e : subD h d = mkU x) (hb : bnd d h x = some u) : kyH d h = (true, u) := by
  unfold kyH
  rw [e, if_pos (shp_U x)]
  show (true, (bnd d h x).getD []) = _
  rw [hb]
  rfl
theorem kyH_not {d : D} {h : List Nat} (e : shp (subD h d) ≠ 0) : kyH d h = (false, h) := by
  unfold kyH
  rw [if_neg e]
/-- what keys are -/
def KyOk (d : D) (κ : Ky) : Prop := PathOf κ.2 d ∧ ((κ.1 = false ∧ ∃ x l, subD κ.2 d = mkW x l) ∨ ∃ x b, subD κ.2 d = mkF x b)
section
variable {m : Nat} {d : D} (wf : WfN m [] d)
include wf in
theorem ky_ok {w : List Nat} (hw : PathOf w d) : KyOk d (ky d w) := by
  obtain ⟨n, hh⟩ := hdP_at wf hw
  have hp := hh.path hw
  unfold ky
  rcases hh.is with ⟨x, l, e⟩ | ⟨x, b, e⟩ | ⟨x, u, b, e, hb, e2⟩
  · rw [kyH_not (by rw [e, shp_W]; decide)]
    exact ⟨hp, .inl ⟨rfl, x, l, e⟩⟩
  · rw [kyH_not (by rw [e, shp_F]; decide)]
    exact ⟨hp, .inr ⟨x, b, e⟩⟩
  · rw [kyH_use e hb]
    exact ⟨bnd_path hp hb, .inr ⟨x, b, e2⟩⟩
include wf in
theorem kk_ok {κ : Ky} (h : KyOk d κ) : ∀ c ∈ kk d κ, KyOk d c := fun c hc => by
  unfold kk at hc
  split at hc
  · cases hc
  · obtain ⟨i, hi, rfl⟩ := List.mem_map.mp hc
    exact ky_ok wf (path_snoc h.1 (List.getElem?_eq_getElem (List.mem_range.mp hi))).1
/-- κ needs the function at q: it is its variable, or stands within it -/
def Inq (q : List Nat) (κ : Ky) : Prop := κ = (true, q) ∨ (κ.1 = false ∧ ∃ v, v ≠ [] ∧ κ.2 = q ++ v)
include wf in
theorem inq_part {q w : List Nat} {x : Str} {b : D} (hq : subD q d = mkF x b) (hw : PathOf w d) (h : Inq q (ky d w)) : ∃ v, v ≠ [] ∧ w = q ++ v := by
  obtain ⟨n, hh⟩ := hdP_at wf hw
  refine hh.inside hq ?_
  unfold ky at h
  rcases hh.is with ⟨x, l, e⟩ | ⟨x, b, e⟩ | ⟨x, u, b, e, hb, e2⟩
  · rw [kyH_not (by rw [e, shp_W]; decide)] at h
    rcases h with h | h
    · cases h
    · exact h.2
  · rw [kyH_not (by rw [e, shp_F]; decide)] at h
    rcases h with h | h
    · cases h
    · exact h.2
  · rw [kyH_use e hb] at h
    rcases h with h | h
    · injection h with _ h
      rw [← h]
      exact (bnd_some hb).1
    · cases h.1
include wf in
theorem inq_up {q : List Nat} {κ c : Ky} {x : Str} {b : D} (hq : subD q d = mkF x b) (ok : KyOk d κ) (hc : c ∈ kk d κ) (h : Inq q c) (ne : κ ≠ (false, q)) : Inq q κ := by
  unfold kk at hc
  split at hc
  · cases hc
  · rename_i e
    obtain ⟨i, hi, rfl⟩ := List.mem_map.mp hc
    obtain ⟨v, hv, ev⟩ := inq_part wf hq (path_snoc ok.1 (List.getElem?_eq_getElem (List.mem_range.mp hi))).1 h
    have e1 : κ.1 = false := Bool.eq_false_iff.mpr e
    rcases List.eq_nil_or_concat v with rfl | ⟨v1, j, rfl⟩
    · exact absurd rfl hv
    · rw [List.concat_eq_append, ← List.append_assoc] at ev
      have e2 := (List.append_inj' ev rfl).1
      refine .inr ⟨e1, v1, fun z => ne ?_, e2⟩
      rw [z, List.append_nil] at e2
      exact Prod.ext e1 e2
def D.wordN : D → Str
  | .tup [_, .str x, _] => x
  | _ => ""
/-- the graph's nodes -/
noncomputable def ndOf (d : D) (ks : List Ky) (κ : Ky) : GN :=
  if κ.1 = true then .V (ks.idxOf (false, κ.2)) else
  if shp (subD κ.2 d) = 2 then .F (((kk d κ).map ks.idxOf).getD 0 0) else .W (subD κ.2 d).wordN ((kk d κ).map ks.idxOf)
noncomputable def gt (d : D) (ks : List Ky) : List GN := ks.map (ndOf d ks)
theorem gt_len (d : D) (ks : List Ky) : (gt d ks).length = ks.length := List.length_map ..
variable {ks : List Ky} (fw : FWg (kk d) [] [ky d []] ks)
include wf fw in
theorem ks_ok : ∀ κ ∈ ks, KyOk d κ := fw.all (fun a h => kk_ok wf h) (fun a h => by cases h) fun a h => by
  rw [List.mem_singleton.mp h]
  exact ky_ok wf (w := []) trivial
include fw in
theorem ks_closed : ∀ κ ∈ ks, ∀ c ∈ kk d κ, c ∈ ks := fw.closed fun a h => by cases h
include fw in
theorem ks_nodup : ks.Nodup := fw.nodup .nil
include fw in
theorem ks_ahead : AheadG (kk d) (ky d []) ks := fw.ahead (fun j a hj => by simp at hj) fun s hs => .inl (List.mem_singleton.mp hs)
include wf in
theorem root_not {q : List Nat} {x : Str} {b : D} (hq : subD q d = mkF x b) : ¬ Inq q (ky d []) := fun h => by
  obtain ⟨v, hv, e⟩ := inq_part wf hq (w := []) trivial h
  exact hv (List.append_eq_nil_iff.mp e.symm).2
include wf fw in
/-- the functions of what needs them are met -/
theorem fun_met {q : List Nat} {x : Str} {b : D} (hq : subD q d = mkF x b) : ∀ (j : Nat) (κ : Ky), ks[j]? = some κ → Inq q κ → (false, q) ∈ ks := fun j => by
  induction j using Nat.strongRecOn with
  | ind j ih =>
    intro κ hj hi
    rcases ks_ahead fw j κ hj with rfl | ⟨i, p, h1, h2, h3⟩
    · exact absurd hi (root_not wf hq)
    · by_cases e : p = (false, q)
      · exact e ▸ List.mem_of_getElem? h2
      · exact ih i h1 p h2 (inq_up wf hq (ks_ok wf fw p (List.mem_of_getElem? h2)) h3 hi e)
include wf fw in
theorem var_met {q : List Nat} (h : (true, q) ∈ ks) : (false, q) ∈ ks := by
  obtain ⟨hp, hf⟩ := ks_ok wf fw _ h
  rcases hf with ⟨h1, _⟩ | ⟨x, b, e⟩
  · cases h1
  · obtain ⟨j, hj, ej⟩ := List.getElem_of_mem h
    exact fun_met wf fw e j _ (by rw [List.getElem?_eq_getElem hj, ej]) (.inl rfl)
end
end Sl

set_option Elab.async false
set_option linter.all false
set_option maxRecDepth 100000
set_option maxHeartbeats 400000
/-! ## What the graph of a term is like -/
namespace Sl
open PySem PySem.Spec PyProof.Rows L2
theorem nd_sub_len {α : Type} [BEq α] [LawfulBEq α] : ∀ {l m : List α}, l.Nodup → (∀ x ∈ l, x ∈ m) → l.length ≤ m.length
  | [], _, _, _ => Nat.zero_le _
  | a :: l, m, h, s => by
    have ⟨h1, h2⟩ := List.nodup_cons.mp h
    have am := s a List.mem_cons_self
    have z := nd_sub_len (m := m.erase a) h2 fun x hx => (List.mem_erase_of_ne (fun z : x = a => h1 (z ▸ hx))).mpr (s x (List.mem_cons_of_mem _ hx))
    rw [List.length_erase_of_mem am] at z
    have : 0 < m.length := List.length_pos_of_mem am
    rw [List.length_cons]
    omega
/-- the graphs that the law draws -/
structure GT (ns : List GN) : Prop where
  pos : 0 < ns.length
  big : ns.length ≤ 45
  rng : ∀ g ∈ ns, Rng ns.length g
  ow : Own ns
  one : (own ns).Nodup
  wo : Wo ns
  fw : FW (kd ns) [] [0] (List.range ns.length)
section
variable {n m : Nat} {d : D} (o : OpN n d) (wf : WfN m [] d)
include o wf in
/-- keys are told by parts -/
theorem ky_in {w : List Nat} (hw : PathOf w d) : ky d w ∈ (pp n d).map (kyH d) := by
  obtain ⟨k, hh⟩ := hdP_at wf hw
  exact List.mem_map.mpr ⟨hdP d w, (pp_iff o).mpr (hh.path hw), rfl⟩
include o wf in
theorem kk_in {κ : Ky} (h : KyOk d κ) : ∀ c ∈ kk d κ, c ∈ (pp n d).map (kyH d) := fun c hc => by
  unfold kk at hc
  split at hc
  · cases hc
  · obtain ⟨i, hi, rfl⟩ := List.mem_map.mp hc
    exact ky_in o wf (path_snoc h.1 (List.getElem?_eq_getElem (List.mem_range.mp hi))).1
include o in
theorem keys_len {l : List Ky} (nd : l.Nodup) (h : ∀ κ ∈ l, κ ∈ (pp n d).map (kyH d)) : l.length ≤ cnt n d := by
  have := nd_sub_len nd h
  rw [List.length_map, pp_len] at this
  exact this
theorem kk_var (d : D) (q : List Nat) : kk d (true, q) = [] := rfl
theorem kk_node (d : D) (p : List Nat) : kk d (false, p) = (List.range (inn (subD p d)).length).map fun i => ky d (p ++ [i]) := rfl
variable {ks : List Ky} (fw : FWg (kk d) [] [ky d []] ks)
theorem gt_at {κ : Ky} {i : Nat} (h : ks[i]? = some κ) : (gt d ks)[i]? = some (ndOf d ks κ) := by
  unfold gt
  rw [List.getElem?_map, h]
  rfl
theorem gt_of {κ : Ky} (h : κ ∈ ks) : (gt d ks)[ks.idxOf κ]? = some (ndOf d ks κ) := gt_at (idx_at h)
theorem nd_var (q : List Nat) : ndOf d ks (true, q) = .V (ks.idxOf (false, q)) := by
  unfold ndOf
  rw [if_pos rfl]
theorem nd_fun {q : List Nat} {x : Str} {b : D} (e : subD q d = mkF x b) : ndOf d ks (false, q) = .F (ks.idxOf (ky d (q ++ [0]))) := by
  unfold ndOf
  rw [if_neg (show ¬ (false = true) from Bool.false_ne_true), if_pos (by rw [e, shp_F]), kk_node, e, inn_F]
  rfl
theorem nd_word {q : List Nat} {x : Str} {l : List D} (e : subD q d = mkW x l) : ndOf d ks (false, q) = .W x ((kk d (false, q)).map ks.idxOf) := by
  unfold ndOf
  rw [if_neg (show ¬ (false = true) from Bool.false_ne_true), if_neg (by rw [e, shp_W]; decide), e]
  rfl
theorem kk_fun {q : List Nat} {x : Str} {b : D} (e : subD q d = mkF x b) : kk d (false, q) = [ky d (q ++ [0])] := by
  rw [kk_node, e, inn_F]
  rfl
include wf fw in
/-- a key's children, as numbers -/
theorem gk_nd {κ : Ky} (h : κ ∈ ks) : gk (ndOf d ks κ) = (kk d κ).map ks.idxOf := by
  have ok := ks_ok wf fw κ h
  obtain ⟨b, q⟩ := κ
  cases b with
  | true => rw [nd_var, kk_var]; rfl
  | false =>
    rcases ok.2 with ⟨_, x, l, e⟩ | ⟨x, b, e⟩
    · rw [nd_word e]
      rfl
    · rw [nd_fun e, kk_fun e]
      rfl
include wf fw in
theorem kd_of {κ : Ky} (h : κ ∈ ks) : kd (gt d ks) (ks.idxOf κ) = (kk d κ).map ks.idxOf := by
  rw [kd_at (gt_of h), gk_nd wf fw h]
include fw in
theorem ks_pos : 0 < ks.length := by
  have := fw.head
  exact (List.getElem?_eq_some_iff.mp this).1
include fw in
theorem ks_fw0 : ks.idxOf (ky d []) = 0 := idx_of (ks_nodup fw) fw.head
theorem map_idx {α : Type} [BEq α] [LawfulBEq α] {l : List α} (nd : l.Nodup) : l.map l.idxOf = List.range l.length := by
  refine List.ext_getElem? fun i => ?_
  rw [List.getElem?_map]
  by_cases h : i < l.length
  · rw [List.getElem?_eq_getElem h, List.getElem?_range h]
    exact congrArg some (idx_of nd (List.getElem?_eq_getElem h))
  · rw [List.getElem?_eq_none (by omega), List.getElem?_eq_none (by rw [List.length_range]; omega)]
    rfl
include wf fw in
/-- the first walk meets the nodes in their order -/
theorem gt_fw : FW (kd (gt d ks)) [] [0] (List.range (gt d ks).length) := by
  have h := fw.toNat (k' := kd (gt d ks)) (f := ks.idxOf) (fun a b ha hb e => ?_) fun a ha => kd_of wf fw ha
  · rw [map_idx (ks_nodup fw), List.map_cons, ks_fw0 fw] at h
    rw [gt_len]
    exact h
  · have h1 := idx_at ha
    have h2 := idx_at hb
    rw [e, h2] at h1
    exact (Option.some.inj h1).symm
include wf fw in
/-- which key a number stands for -/
theorem gt_key {i : Nat} {g : GN} (h : (gt d ks)[i]? = some g) : ∃ κ, ks[i]? = some κ ∧ g = ndOf d ks κ ∧ KyOk d κ := by
  unfold gt at h
  rw [List.getElem?_map] at h
  obtain ⟨κ, hk, e⟩ := Option.map_eq_some_iff.mp h
  exact ⟨κ, hk, e.symm, ks_ok wf fw κ (List.mem_of_getElem? hk)⟩
include wf fw in
theorem gt_var {v f : Nat} (h : (gt d ks)[v]? = some (.V f)) : ∃ q x b, ks[v]? = some (true, q) ∧ ks[f]? = some (false, q) ∧ subD q d = mkF x b := by
  obtain ⟨⟨b, q⟩, hk, e, ok⟩ := gt_key wf fw h
  cases b with
  | true =>
    rw [nd_var] at e
    have e' : f = ks.idxOf (false, q) := by injection e
    rcases ok.2 with ⟨z, _⟩ | ⟨x, b, e2⟩
    · cases z
    · exact ⟨q, x, b, hk, by rw [e']; exact idx_at (var_met wf fw (List.mem_of_getElem? hk)), e2⟩
  | false =>
    rcases ok.2 with ⟨_, x, l, e2⟩ | ⟨x, b, e2⟩
    · rw [nd_word e2] at e
      cases e
    · rw [nd_fun e2] at e
      cases e
include wf fw in
theorem gt_nd {f v : Nat} {q : List Nat} {x : Str} {b : D} (hv : ks[v]? = some (true, q)) (hf : ks[f]? = some (false, q)) (hq : subD q d = mkF x b) : ∀ {i : Nat}, Nd (gt d ks) f v i → ∃ κ, ks[i]? = some κ ∧ Inq q κ := fun {i} h => by
  induction h with
  | var => exact ⟨_, hv, .inl rfl⟩
  | @up i c hn hk hne ih =>
    obtain ⟨γ, hc, hi⟩ := ih
    have hil : i < (gt d ks).length := by
      unfold kd at hk
      split at hk
      · rename_i e
        exact (List.getElem?_eq_some_iff.mp e).1
      · cases hk
    obtain ⟨κ, h1, _, ok⟩ := gt_key wf fw (List.getElem?_eq_getElem hil)
    have ik := idx_of (ks_nodup fw) h1
    rw [← ik, kd_of wf fw (List.mem_of_getElem? h1)] at hk
    obtain ⟨γ2, hg2, e⟩ := List.mem_map.mp hk
    have g2 := ks_closed fw κ (List.mem_of_getElem? h1) γ2 hg2
    have : γ2 = γ := by
      have a := idx_at g2
      rw [e, hc] at a
      exact (Option.some.inj a).symm
    subst this
    refine ⟨κ, h1, inq_up wf hq ok hg2 hi fun z => hne ?_⟩
    subst z
    have a := idx_of (ks_nodup fw) hf
    omega
include o wf fw in
theorem gt_ok (hc : cnt n d ≤ 45) : GT (gt d ks) := by
  have nd := ks_nodup fw
  have fwn := gt_fw wf fw
  have kin : ∀ κ ∈ ks, κ ∈ (pp n d).map (kyH d) := by
    have : ∀ κ ∈ ks, KyOk d κ ∧ κ ∈ (pp n d).map (kyH d) := FWg.all (P := fun κ => KyOk d κ ∧ κ ∈ (pp n d).map (kyH d)) (fun a h c hc => ⟨kk_ok wf h.1 c hc, kk_in o wf h.1 c hc⟩) fw (fun a h => by cases h) fun a h => by
      rw [List.mem_singleton.mp h]
      exact ⟨ky_ok wf (w := []) trivial, ky_in o wf (w := []) trivial⟩
    exact fun κ h => (this κ h).2
  have pos : 0 < (gt d ks).length := by rw [gt_len]; exact ks_pos fw
  have ownE : Own (gt d ks) := fun v f h => by
    obtain ⟨q, x, b, _, hf, e⟩ := gt_var wf fw h
    exact ⟨_, by rw [gt_at hf, nd_fun e]⟩
  refine ⟨pos, by rw [gt_len]; exact Nat.le_trans (keys_len o nd kin) hc, fun g hg => ?_, ownE, ?_, ⟨fun i h0 hi => ?_, fun f v hv hn => ?_⟩, fwn⟩
  · obtain ⟨i, hi, e⟩ := List.getElem_of_mem hg
    obtain ⟨⟨b, q⟩, hk, e2, ok⟩ := gt_key wf fw (List.getElem?_eq_getElem hi)
    rw [e] at e2
    subst e2
    have hm := List.mem_of_getElem? hk
    have kids := gk_nd wf fw hm
    have lt : ∀ c ∈ gk (ndOf d ks (b, q)), c < (gt d ks).length := fun c hc => by
      rw [kids] at hc
      obtain ⟨γ, hg, rfl⟩ := List.mem_map.mp hc
      rw [gt_len]
      exact List.idxOf_lt_length_of_mem (ks_closed fw _ hm γ hg)
    cases b with
    | true =>
      rw [nd_var, gt_len]
      exact List.idxOf_lt_length_of_mem (var_met wf fw hm)
    | false =>
      rcases ok.2 with ⟨_, x, l, e2⟩ | ⟨x, b, e2⟩
      · rw [nd_word e2] at lt ⊢
        have s := sub_ok ok.1 o
        have s2 : q.length < n := s.2
        obtain ⟨j, hj⟩ : ∃ j, n - q.length = j + 1 := ⟨n - q.length - 1, by omega⟩
        have s : OpN (n - q.length) (subD q d) ∧ q.length < n := s
        have e3 : subD q d = mkW x l := e2
        rw [hj, e3] at s
        have bt := (OpN.s.mp s.1).1.1
        rw [built_W, Bool.and_eq_true] at bt
        refine ⟨bt.1, ?_, lt⟩
        rw [List.length_map, kk_node, List.length_map, List.length_range, e3, inn_W]
        exact of_decide_eq_true bt.2
      · rw [nd_fun e2] at lt ⊢
        exact lt _ (List.mem_singleton.mpr rfl)
  · unfold own
    have e : gt d ks = (List.range ks.length).map fun i => nAt (gt d ks) i := by
      refine List.ext_getElem? fun i => ?_
      rw [List.getElem?_map]
      by_cases h : i < ks.length
      · rw [List.getElem?_range h]
        exact nAt_get (by rw [gt_len]; exact h)
      · rw [List.getElem?_eq_none (by rw [gt_len]; omega), List.getElem?_eq_none (by rw [List.length_range]; omega)]
        rfl
    rw [e, List.filterMap_map]
    refine List.Pairwise.filterMap _ (fun a b hab p hp q hq => ?_) (List.Pairwise.imp_of_mem (fun {a b} ha hb h => (⟨List.mem_range.mp ha, List.mem_range.mp hb, h⟩ : a < ks.length ∧ b < ks.length ∧ a ≠ b)) (List.nodup_iff_pairwise_ne.mp List.nodup_range))
    obtain ⟨ha, hb, hne⟩ := hab
    intro e2
    subst e2
    have get : ∀ x, x < ks.length → ((GN.own ∘ fun i => nAt (gt d ks) i) x = some p) → (gt d ks)[x]? = some (.V p) := fun x hx h => by
      have hat := nAt_get (ns := gt d ks) (i := x) (by rw [gt_len]; exact hx)
      cases hn : nAt (gt d ks) x with
      | W y cs =>
        have h' : (nAt (gt d ks) x).own = some p := h
        rw [hn] at h'
        cases h'
      | F c =>
        have h' : (nAt (gt d ks) x).own = some p := h
        rw [hn] at h'
        cases h'
      | V f =>
        have h' : (nAt (gt d ks) x).own = some p := h
        rw [hn] at h' hat
        rw [hat, Option.some.inj h']
    obtain ⟨q1, _, _, h1, h2, _⟩ := gt_var wf fw (get a ha hp)
    obtain ⟨q2, _, _, h3, h4, _⟩ := gt_var wf fw (get b hb hq)
    rw [h2] at h4
    have e5 : q1 = q2 := by
      have := Option.some.inj h4
      injection this
    subst e5
    have i1 := idx_of nd h1
    have i2 := idx_of nd h3
    exact hne (i1.symm.trans i2)
  · have hat : (List.range (gt d ks).length)[i]? = some i := List.getElem?_range hi
    rcases fw_ahead fwn i i hat with e | ⟨j, p, h1, h2, h3⟩
    · omega
    · have hjl := (List.getElem?_eq_some_iff.mp h2).1
      rw [List.length_range] at hjl
      rw [List.getElem?_range hjl] at h2
      cases h2
      exact ⟨j, h1, h3⟩
  · obtain ⟨q, x, b, hv2, hf2, hq⟩ := gt_var wf fw hv
    obtain ⟨κ, h0, hi⟩ := gt_nd wf fw hv2 hf2 hq hn
    rw [fw.head] at h0
    rw [← Option.some.inj h0] at hi
    exact root_not wf hq hi
end
end Sl

set_option Elab.async false
set_option linter.all false
set_option maxRecDepth 100000
set_option maxHeartbeats 400000
/-! ## Shuffled graphs -/
namespace Sl
open PySem PySem.Spec PyProof.Rows L2
/-- a node that is not reached: child below n -/
def Extra (n : Nat) (g : GN) : Prop := (∃ c, c < n ∧ g = .F c) ∨ g = .W "k" [] ∨ ∃ c, c < n ∧ g = .W "at" [c, n]
theorem Rng.mono {a b : Nat} {g : GN} (h : Rng a g) (l : a ≤ b) : Rng b g := by
  cases g with
  | W x cs => exact ⟨h.1, h.2.1, fun c hc => Nat.lt_of_lt_of_le (h.2.2 c hc) l⟩
  | F c => exact Nat.lt_of_lt_of_le h l
  | V f => exact Nat.lt_of_lt_of_le h l
theorem rl_rl (f g : Nat → Nat) (x : GN) : rl f (rl g x) = rl (fun i => f (g i)) x := by
  cases x with
  | W y cs =>
    show GN.W y ((cs.map g).map f) = _
    rw [List.map_map]
    rfl
  | F c => rfl
  | V c => rfl
theorem rl_id {f : Nat → Nat} {g : GN} (h : ∀ j ∈ nums g, f j = j) : rl f g = g := by
  cases g with
  | W x cs =>
    show GN.W x (cs.map f) = _
    have e : cs.map f = cs := (List.map_congr_left (g := id) fun c hc => h c hc).trans (List.map_id _)
    rw [e]
  | F c =>
    show GN.F (f c) = _
    rw [h c (List.mem_singleton.mpr rfl)]
  | V c =>
    show GN.V (f c) = _
    rw [h c (List.mem_singleton.mpr rfl)]
section
variable {ns E : List GN} {os : List Nat} (gt : GT ns) (pm : os.Perm (List.range ns.length)) (hE : ∀ g ∈ E, Extra ns.length g) (h0 : os[0]? = some 0)
include pm in
theorem sh_facts : os.Nodup ∧ os.length = ns.length ∧ ∀ j, j ∈ os ↔ j < ns.length := by
  refine ⟨pm.nodup_iff.mpr List.nodup_range, by rw [pm.length_eq, List.length_range], fun j => ?_⟩
  rw [pm.mem_iff, List.mem_range]
include gt pm in
theorem sh_cl : ∀ i ∈ os, ∀ j ∈ nums (nAt ns i), j ∈ os := fun i hi j hj => by
  obtain ⟨_, _, hm⟩ := sh_facts pm
  have hl := (hm i).mp hi
  exact (hm j).mpr ((nums_rng (gt.rng _ (List.mem_of_getElem? (nAt_get hl)))).2 j hj)
include pm in
theorem sh_len : (ren ns os).length = ns.length := by
  obtain ⟨_, hl, _⟩ := sh_facts pm
  rw [ren_len, hl]
include gt pm in
/-- where a node stands now -/
theorem sh_at {a : Nat} (h : a < ns.length) : (ren ns os ++ E)[os.idxOf a]? = some (rl (fun j => os.idxOf j) (nAt ns a)) ∧ os.idxOf a < ns.length := by
  obtain ⟨nd, hl, hm⟩ := sh_facts pm
  have ha := idx_at ((hm a).mpr h)
  have hi := (List.getElem?_eq_some_iff.mp ha).1
  refine ⟨?_, by omega⟩
  rw [List.getElem?_append_left (by rw [ren_len]; exact hi)]
  exact ren_at ha
include hE in
theorem own_extra : own E = [] := by
  unfold own
  refine List.filterMap_eq_nil_iff.mpr fun g hg => ?_
  rcases hE g hg with ⟨c, _, rfl⟩ | rfl | ⟨c, _, rfl⟩ <;> rfl
include hE in
theorem extra_not {g : GN} {f : Nat} (hg : g ∈ E) (e : g = .V f) : False := by
  rcases hE g hg with ⟨c, _, rfl⟩ | rfl | ⟨c, _, rfl⟩ <;> cases e
theorem kd_app {A B : List GN} {i : Nat} (h : i < A.length) : kd (A ++ B) i = kd A i := by
  unfold kd
  rw [List.getElem?_append_left h]
include gt pm hE h0 in
theorem sh_gv (lE : E.length ≤ 2) : GV (ren ns os ++ E) := by
  obtain ⟨nd, hl, hm⟩ := sh_facts pm
  have cl := sh_cl gt pm
  have ll := sh_len (ns := ns) pm
  have lt : ∀ i ∈ os, i < ns.length := fun i hi => (hm i).mp hi
  have len : (ren ns os ++ E).length = ns.length + E.length := by rw [List.length_append, ll]
  have pos := gt.pos
  have big := gt.big
  have k1 : nmOk "k" = true := by decide +kernel
  have k2 : nmOk "at" = true := by decide +kernel
  refine ⟨by omega, by omega, fun g hg => ?_, ?_, fun f v hv hn => ?_⟩
  · rw [len]
    rcases List.mem_append.mp hg with h | h
    · exact (ren_rng lt cl gt.rng g h).mono (by rw [ll]; omega)
    · have pE : 0 < E.length := List.length_pos_of_mem h
      rcases hE g h with ⟨c, hc, rfl⟩ | rfl | ⟨c, hc, rfl⟩
      · show c < _
        omega
      · exact ⟨k1, Nat.zero_le _, fun c hc => by cases hc⟩
      · refine ⟨k2, by simp, fun b hb => ?_⟩
        rcases List.mem_cons.mp hb with rfl | hb
        · omega
        · rw [List.mem_singleton.mp hb]
          omega
  · unfold arB
    rw [Bool.and_eq_true]
    refine ⟨List.all_eq_true.mpr fun g hg => ?_, decide_eq_true ?_⟩
    · rcases List.mem_append.mp hg with h | h
      · unfold ren at h
        obtain ⟨i, hi, rfl⟩ := List.mem_map.mp h
        have hat := nAt_get (lt i hi)
        cases hn : nAt ns i with
        | W x cs => rfl
        | F c => rfl
        | V b =>
          rw [hn] at hat
          obtain ⟨c, hc⟩ := gt.ow i b hat
          have hb := (List.getElem?_eq_some_iff.mp hc).1
          have hs := (sh_at (E := E) gt pm hb).1
          rw [show nAt ns b = .F c from Option.some.inj ((nAt_get hb).symm.trans hc)] at hs
          show (match (ren ns os ++ E)[os.idxOf b]? with | some g => g.isF | none => false) = true
          rw [hs]
          rfl
      · rcases hE g h with ⟨c, _, rfl⟩ | rfl | ⟨c, _, rfl⟩ <;> rfl
    · have e : own (ren ns os ++ E) = own (ren ns os) ++ own E := by
        unfold own
        rw [List.filterMap_append]
      rw [e, own_extra hE, List.append_nil]
      exact ren_own nd lt cl gt.one
  · have hvl : v < (ren ns os).length := by
      by_cases h : v < (ren ns os).length
      · exact h
      · rw [List.getElem?_append_right (by omega)] at hv
        exact (extra_not hE (List.mem_of_getElem? hv) rfl).elim
    have hv2 : (ren ns os)[v]? = some (.V f) := by
      rw [List.getElem?_append_left hvl] at hv
      exact hv
    have down : ∀ {i : Nat}, Nd (ren ns os ++ E) f v i → i < (ren ns os).length → Nd (ren ns os) f v i := fun {i} h => by
      induction h with
      | var => exact fun _ => .var
      | @up i c _ hk hne ih =>
        intro hi
        rw [kd_app hi] at hk
        have hc := kd_rng (ren_rng lt cl gt.rng) i c hk
        exact .up (ih hc) hk hne
    have hn2 := down hn (by rw [ll]; exact pos)
    rw [ren_len] at hvl
    have ha := List.getElem?_eq_getElem hvl
    obtain ⟨b, hb, e⟩ := ren_var cl ha hv2
    have hat := nAt_get (lt _ (List.mem_of_getElem? ha))
    rw [e] at hat
    exact gt.wo.free b _ hat (ren_nd nd lt cl hn2 b _ 0 hb ha h0)
include gt pm h0 in
/-- numbered by the first walk, they are what they were -/
theorem sh_back {o : List Nat} (fw : FW (kd (ren ns os ++ E)) [] [0] o) : ren (ren ns os ++ E) o = ns := by
  obtain ⟨nd, hl, hm⟩ := sh_facts pm
  have r0 : os.idxOf 0 = 0 := idx_of nd h0
  have inj : ∀ a b, a ∈ List.range ns.length → b ∈ List.range ns.length → os.idxOf a = os.idxOf b → a = b := fun a b ha hb e => by
    have h1 := idx_at ((hm a).mpr (List.mem_range.mp ha))
    have h2 := idx_at ((hm b).mpr (List.mem_range.mp hb))
    rw [e, h2] at h1
    exact (Option.some.inj h1).symm
  have mp := (gt.fw.map (k' := kd (ren ns os ++ E)) (ρ := fun j => os.idxOf j) inj fun a ha => by
    have ha' := List.mem_range.mp ha
    rw [kd_at (sh_at (E := E) gt pm ha').1, gk_rl, kd_at (nAt_get ha')]).2.2
  rw [List.map_cons, List.map_nil, r0] at mp
  have eo : o = (List.range ns.length).map fun j => os.idxOf j := fw.det mp
  have ndo : ((List.range ns.length).map fun j => os.idxOf j).Nodup := by
    refine List.nodup_iff_pairwise_ne.mpr (List.pairwise_map.mpr ((List.Pairwise.imp_of_mem (fun {a b} ha hb h => ?_)) (List.nodup_iff_pairwise_ne.mp (List.nodup_range (n := ns.length)))))
    exact fun e => h (inj a b ha hb e)
  have back : ∀ j, j < ns.length → o.idxOf (os.idxOf j) = j := fun j hj => by
    rw [eo]
    refine idx_of ndo ?_
    rw [List.getElem?_map, List.getElem?_range hj]
    rfl
  unfold ren
  rw [show (o.map fun i => rl (fun j => o.idxOf j) (nAt (os.map (fun i => rl (fun j => os.idxOf j) (nAt ns i)) ++ E) i)) = (List.range ns.length).map fun a => rl (fun j => o.idxOf j) (nAt (ren ns os ++ E) (os.idxOf a)) from by
    conv => lhs; arg 2; rw [eo]
    rw [List.map_map]
    rfl]
  refine List.ext_getElem? fun i => ?_
  rw [List.getElem?_map]
  by_cases h : i < ns.length
  · rw [List.getElem?_range h, nAt_get h]
    have hs := sh_at (E := E) gt pm h
    have en : nAt (ren ns os ++ E) (os.idxOf i) = rl (fun j => os.idxOf j) (nAt ns i) := Option.some.inj ((nAt_get (List.getElem?_eq_some_iff.mp hs.1).1).symm.trans hs.1)
    show some (rl _ _) = _
    rw [en, rl_rl, rl_id fun j hj => back j ((nums_rng (gt.rng _ (List.mem_of_getElem? (nAt_get h)))).2 j hj)]
  · rw [List.getElem?_eq_none (by rw [List.length_range]; omega), List.getElem?_eq_none (by omega)]
    rfl
end
end Sl

set_option Elab.async false
set_option linter.all false
set_option maxRecDepth 100000
set_option maxHeartbeats 400000
/-! ## The closed part of a node -/
namespace Sl
open PySem PySem.Spec PyProof.Rows L2
/-- the node needs nothing -/
def FreeA (ns : List GN) (r : Nat) : Prop := ∀ f v, ns[v]? = some (.V f) → ¬ Nd ns f v r
theorem freeA_row {ns : List GN} {i : Nat} {r : List Nat} (h : Row ns i r) : r = [] ↔ FreeA ns i := by
  constructor
  · intro e f v hv hn
    have := (h.mem f).mpr ⟨v, hv, hn⟩
    rw [e] at this
    cases this
  · intro hf
    cases r with
    | nil => rfl
    | cons x r =>
      obtain ⟨v, hv, hn⟩ := (h.mem x).mp List.mem_cons_self
      exact absurd hn (hf x v hv)
/-- a walk from a root that needs nothing meets the functions of the variables that it meets -/
theorem owner_metA {ns : List GN} {o : List Nat} {r : Nat} (fr : FreeA ns r) (h : FW (kd ns) [] [r] o) {v f : Nat} (hv : v ∈ o) (e : ns[v]? = some (.V f)) : f ∈ o := by
  by_cases hf : f ∈ o
  · exact hf
  refine absurd ?_ (fr f v e)
  have ah := fw_ahead h
  have up : ∀ (n j a : Nat), j ≤ n → o[j]? = some a → Nd ns f v a → Nd ns f v r := fun n => by
    induction n with
    | zero =>
      intro j a hj ha hn
      have e0 := fw_head h
      rw [show j = 0 by omega, e0] at ha
      rw [Option.some.inj ha]
      exact hn
    | succ n ih =>
      intro j a hj ha hn
      rcases ah j a ha with e0 | ⟨i, p, h1, h2, h3⟩
      · rw [← e0]
        exact hn
      · exact ih i p (by omega) h2 (.up hn h3 fun z => hf (z ▸ List.mem_of_getElem? h2))
  obtain ⟨j, hj, e2⟩ := List.getElem_of_mem hv
  exact up j j v (Nat.le_refl _) (by rw [List.getElem?_eq_getElem hj, e2]) .var
theorem walk_closedA {ns : List GN} {o : List Nat} {r : Nat} (fr : FreeA ns r) (h : FW (kd ns) [] [r] o) (lt : ∀ i ∈ o, i < ns.length) : ∀ i ∈ o, ∀ j ∈ nums (nAt ns i), j ∈ o := fun i hi j hj => by
  have hat := nAt_get (lt i hi)
  have cl := h.closed (fun a ha => by cases ha) i hi
  rw [kd_at hat] at cl
  cases hg : nAt ns i with
  | W x cs =>
    rw [hg] at cl hj
    exact cl j hj
  | F c =>
    rw [hg] at cl hj
    exact cl j hj
  | V f =>
    rw [hg] at hj hat
    rw [List.mem_singleton.mp hj]
    exact owner_metA fr h hi hat
theorem ren_woA {ns : List GN} {o : List Nat} {r : Nat} (fr : FreeA ns r) (h : FW (kd ns) [] [r] o) (nd : o.Nodup) (lt : ∀ i ∈ o, i < ns.length) : Wo (ren ns o) := by
  have cl := walk_closedA fr h lt
  refine ⟨fun i h0 hi => ?_, fun f v hv hn => ?_⟩
  · rw [ren_len] at hi
    have hat := List.getElem?_eq_getElem hi
    rcases fw_ahead h i _ hat with e | ⟨j, p, h1, h2, h3⟩
    · have e0 := fw_head h
      obtain ⟨x1, x2⟩ := List.getElem?_eq_some_iff.mp e0
      have := (List.getElem_inj nd).mp (x2.trans e.symm)
      omega
    · refine ⟨j, h1, ?_⟩
      rw [kd_at (ren_at h2), gk_rl]
      rw [kd_at (nAt_get (lt p (List.mem_of_getElem? h2)))] at h3
      refine List.mem_map.mpr ⟨_, h3, idxOf_at nd hi⟩
  · have hvl := (List.getElem?_eq_some_iff.mp hv).1
    rw [ren_len] at hvl
    have ha := List.getElem?_eq_getElem hvl
    obtain ⟨b, hb, e⟩ := ren_var cl ha hv
    have hat := nAt_get (lt _ (List.mem_of_getElem? ha))
    rw [e] at hat
    exact fr b _ hat (ren_nd nd lt cl hn b _ r hb ha (fw_head h))
theorem ren_self {ns : List GN} (g : GT ns) : ren ns (List.range ns.length) = ns := by
  unfold ren
  refine List.ext_getElem? fun i => ?_
  rw [List.getElem?_map]
  by_cases h : i < ns.length
  · rw [List.getElem?_range h, nAt_get h]
    show some (rl _ _) = _
    rw [rl_id fun j hj => idx_of List.nodup_range (List.getElem?_range ((nums_rng (g.rng _ (List.mem_of_getElem? (nAt_get h)))).2 j hj))]
  · rw [List.getElem?_eq_none (by rw [List.length_range]; omega), List.getElem?_eq_none (by omega)]
    rfl
theorem gt_gv {ns : List GN} (g : GT ns) : GV ns := by
  have h0 : (List.range ns.length)[0]? = some 0 := List.getElem?_range g.pos
  have := sh_gv (E := []) g (List.Perm.refl _) (fun x hx => by cases hx) h0 (Nat.zero_le _)
  rw [ren_self g, List.append_nil] at this
  exact this
theorem gt_ren {ns : List GN} (g : GT ns) {o : List Nat} (fw : FW (kd ns) [] [0] o) : ren ns o = ns := by
  rw [fw.det g.fw]
  exact ren_self g
/-- what the closed part of a node holds -/
structure Cp (ns : List GN) (a : Nat) (o : List Nat) : Prop where
  fw : FW (kd ns) [] [a] o
  nd : o.Nodup
  lt : ∀ i ∈ o, i < ns.length
theorem idx_map {o : List Nat} (nd : o.Nodup) : o.map (fun j => o.idxOf j) = List.range o.length := by
  refine List.ext_getElem? fun i => ?_
  rw [List.getElem?_map]
  by_cases h : i < o.length
  · rw [List.getElem?_range h, List.getElem?_eq_getElem h]
    exact congrArg some (idxOf_at nd h)
  · rw [List.getElem?_eq_none (by omega), List.getElem?_eq_none (by rw [List.length_range]; omega)]
    rfl
theorem cp_gt {ns : List GN} (gt : GT ns) {a : Nat} {o : List Nat} (fr : FreeA ns a) (c : Cp ns a o) : GT (ren ns o) := by
  have cl := walk_closedA fr c.fw c.lt
  have h0 := fw_head c.fw
  have pos : 0 < o.length := (List.getElem?_eq_some_iff.mp h0).1
  have lo := nd_len' c.nd c.lt
  have big := gt.big
  refine ⟨by rw [ren_len]; exact pos, by rw [ren_len]; omega, ren_rng c.lt cl gt.rng, fun v f hv => ?_, ren_own c.nd c.lt cl gt.one, ren_woA fr c.fw c.nd c.lt, ?_⟩
  · have hvl := (List.getElem?_eq_some_iff.mp hv).1
    rw [ren_len] at hvl
    have ha := List.getElem?_eq_getElem hvl
    obtain ⟨b, hb, e⟩ := ren_var cl ha hv
    have hat := nAt_get (c.lt _ (List.mem_of_getElem? ha))
    rw [e] at hat
    obtain ⟨z, hz⟩ := gt.ow _ b hat
    refine ⟨o.idxOf z, ?_⟩
    rw [ren_at hb, show nAt ns b = .F z from Option.some.inj ((nAt_get (List.getElem?_eq_some_iff.mp hz).1).symm.trans hz)]
    rfl
  · have inj : ∀ a b, a ∈ o → b ∈ o → o.idxOf a = o.idxOf b → a = b := fun a b ha hb e => by
      have h1 := idx_at ha
      rw [e, idx_at hb] at h1
      exact (Option.some.inj h1).symm
    have mp := (c.fw.map (k' := kd (ren ns o)) (ρ := fun j => o.idxOf j) inj fun b hb => by
      rw [kd_at (ren_at (idx_at hb)), gk_rl, kd_at (nAt_get (c.lt b hb))]).2.2
    have e0 : o.idxOf a = 0 := by
      have := idxOf_at c.nd pos
      rwa [show o[0] = a from (List.getElem?_eq_some_iff.mp h0).2] at this
    rw [List.map_cons, List.map_nil, e0, idx_map c.nd] at mp
    rw [ren_len]
    exact mp
end Sl

set_option Elab.async false
set_option linter.all false
set_option maxRecDepth 100000
set_option maxHeartbeats 400000
/-! ## Nodes as data, in a list or a tuple -/
namespace Sl
open PySem PySem.Spec PyProof.Rows L2
def ndP : GN → PyData
  | .W x cs => .tuple [.str "word", .str x, .tuple (cs.map fun i => .int (i : Nat))]
  | .F c => .tuple [.str "fun", .int (c : Nat)]
  | .V f => .tuple [.str "var", .int (f : Nat)]
theorem nd_dp {K : PySem.W.Frag} {H : Hp} {v : V} {g : GN} (h : Rdd K H v (ndD g)) : Dp K H v (ndP g) := by
  cases g with
  | W x cs =>
    obtain ⟨a0, xs, rfl, hs, hx, _⟩ := h.tupd'
    obtain ⟨x1, x2, x3, rfl, r1, r2, r3⟩ := hx.trip
    cases r1
    cases r2
    obtain ⟨c0, ys, rfl, hc, hy, _⟩ := r3.tupd'
    rw [iD_ints hy] at hc
    exact .tup hs (.cons (.str _) (.cons (.str _) (.cons (.tup hc (ints_dp cs)) .nil)))
  | F c =>
    obtain ⟨a0, xs, rfl, hs, hx, _⟩ := h.tupd'
    obtain ⟨x1, x2, rfl, r1, r2⟩ := hx.pair
    cases r1
    cases r2
    exact .tup hs (.cons (.str _) (.cons (.int _) .nil))
  | V f =>
    obtain ⟨a0, xs, rfl, hs, hx, _⟩ := h.tupd'
    obtain ⟨x1, x2, rfl, r1, r2⟩ := hx.pair
    cases r1
    cases r2
    exact .tup hs (.cons (.str _) (.cons (.int _) .nil))
theorem sOk (x : Str) (h : PyData.strOk x = true) : PyData.canLay0 (.str x) = true := by
  simp only [PyData.canLay0]
  exact h
theorem tag_ok : PyData.strOk ("word" : Str) = true ∧ PyData.strOk ("fun" : Str) = true ∧ PyData.strOk ("var" : Str) = true := ⟨by decide +kernel, by decide +kernel, by decide +kernel⟩
theorem nds_dp {K : PySem.W.Frag} {H : Hp} : ∀ {ns : List GN} {us : List V}, RddAll K H us (ns.map ndD) → DpAll K H us (ns.map ndP)
  | [], _, h => by
    cases h
    exact .nil
  | g :: ns, _, h => by
    cases h with
    | cons h t => exact .cons (nd_dp h) (nds_dp t)
theorem nds_lay {n : Nat} : ∀ {ns : List GN}, (∀ g ∈ ns, Rng n g) → PyData.canLayAll0 (ns.map ndP) = true ∧ PyData.depthAll (ns.map ndP) ≤ 2
  | [], _ => by simp [PyData.canLayAll0, PyData.depthAll]
  | g :: ns, h => by
    have ⟨h1, h2⟩ := nds_lay (ns := ns) fun x hx => h x (List.mem_cons_of_mem _ hx)
    obtain ⟨t1, t2, t3⟩ := tag_ok
    have hg := h g List.mem_cons_self
    rw [List.map_cons, PyData.canLayAll0, PyData.depthAll, h1]
    cases g with
    | W x cs =>
      have ⟨h3, h4⟩ := ints_lay cs
      simp only [ndP, PyData.canLay0, PyData.canLayAll0, PyData.depth, PyData.depthAll, h3, h4, t1, nm_strOk hg.1]
      exact ⟨rfl, by omega⟩
    | F c =>
      simp only [ndP, PyData.canLay0, PyData.canLayAll0, PyData.depth, PyData.depthAll, t2]
      exact ⟨rfl, by omega⟩
    | V f =>
      simp only [ndP, PyData.canLay0, PyData.canLayAll0, PyData.depth, PyData.depthAll, t3]
      exact ⟨rfl, by omega⟩
theorem nds_tup {n : Nat} {ns : List GN} (h : ∀ g ∈ ns, Rng n g) : SeqAt.shaped (.tuple (ns.map ndP)) = true ∧ PyData.eqv (.tuple (ns.map ndP)) (.tuple (ns.map ndP)) = true := by
  have ⟨h1, h2⟩ := nds_lay h
  refine ⟨?_, SeqAt.eqv_refl _ (by simp only [PyData.canLay0]; exact h1)⟩
  unfold SeqAt.shaped
  simp only [PyData.canLay0, PyData.depth, h1, Bool.true_and]
  exact decide_eq_true (by omega)
theorem nds_lst {n : Nat} {ns : List GN} (h : ∀ g ∈ ns, Rng n g) : SeqAt.shaped (.list (ns.map ndP)) = true ∧ PyData.eqv (.list (ns.map ndP)) (.list (ns.map ndP)) = true := by
  have ⟨h1, h2⟩ := nds_lay h
  refine ⟨?_, SeqAt.eqv_refl _ (by simp only [PyData.canLay0]; exact h1)⟩
  unfold SeqAt.shaped
  simp only [PyData.canLay0, PyData.depth, h1, Bool.true_and]
  exact decide_eq_true (by omega)
theorem nds_tdp {K : PySem.W.Frag} {H : Hp} {v : V} {ns : List GN} (h : Rdd K H v (.tup (ns.map ndD))) : Dp K H v (.tuple (ns.map ndP)) := by
  obtain ⟨a0, xs, rfl, hs, hx, _⟩ := h.tupd'
  exact .tup hs (nds_dp hx)
/-- nodes in a list or a tuple -/
def SqN (K : PySem.W.Frag) (H : Hp) (v : V) (ns : List GN) : Prop := ∃ (a : Addr) (us : List V), v = .ref a ∧ (H a = some (.lst us) ∨ SqT K H a us) ∧ RddAll K H us (ns.map ndD)
theorem SqN.same {K : PySem.W.Frag} {H H' : Hp} {v : V} {ns : List GN} (h : SqN K H v ns) (s : Same H H') : SqN K H' v ns := by
  obtain ⟨a, us, h1, h2, h3⟩ := h
  exact ⟨a, us, h1, h2.imp (fun z => s _ _ z) fun z => (Ex.same s).tup z, RddAll.ex (Ex.same s) _ h3⟩
theorem SqN.tup {K : PySem.W.Frag} {H : Hp} {v : V} {ns : List GN} (h : Rdd K H v (.tup (ns.map ndD))) : SqN K H v ns := by
  obtain ⟨a0, xs, rfl, hs, hx, _⟩ := h.tupd'
  exact ⟨a0, xs, rfl, .inr hs, hx⟩
/-- nodes[i] -/
theorem SqN.ix {K : PySem.W.Frag} {H : Hp} {v : V} {ns : List GN} {i : Nat} {Q : VK} (h : SqN K H v ns) (hi : i < ns.length) (q : ∀ y, Rdd K H y (ndD (nAt ns i)) → Q y H) : rIx K v (.int (i : Nat)) H Q := by
  obtain ⟨a, us, rfl, h2, h3⟩ := h
  obtain ⟨y, hy, ry⟩ := h3.at (i := i) (d := ndD (nAt ns i)) (by rw [List.getElem?_map, nAt_get hi]; rfl)
  rcases h2 with h2 | h2
  · exact .inl ⟨a, us, ((i : Nat) : Int), y, rfl, rfl, SqL.of h2, atI_nat hy, q y ry⟩
  · exact .inr (.inl ⟨a, us, ((i : Nat) : Int), y, rfl, rfl, h2, atI_nat hy, q y ry⟩)
/-- len(nodes) -/
theorem SqN.len {K : PySem.W.Frag} {H : Hp} {v : V} {ns : List GN} (h : SqN K H v ns) : ∃ (a : Addr) (us : List V), v = .ref a ∧ (SqL K H a us ∨ SqT K H a us) ∧ us.length = ns.length := by
  obtain ⟨a, us, rfl, h2, h3⟩ := h
  exact ⟨a, us, rfl, h2.imp SqL.of id, by rw [h3.length, List.length_map]⟩
/-- a walk to all that is reached from a, so far -/
structure Wk (k : Nat → List Nat) (n a : Nat) (m st : List Nat) : Prop where
  nd : m.Nodup
  lt : ∀ i ∈ m, i < n
  slt : ∀ i ∈ st, i < n
  sound : ∀ i, i ∈ m ∨ i ∈ st → Rc k a i
  full : ∀ i ∈ m, ∀ c ∈ k i, c ∈ m ∨ c ∈ st
  root : a ∈ m ∨ a ∈ st
theorem Wk.done {k : Nat → List Nat} {n a : Nat} {m : List Nat} (h : Wk k n a m []) (j : Nat) : j ∈ m ↔ Rc k a j := by
  refine ⟨fun z => h.sound j (.inl z), fun r => ?_⟩
  induction r with
  | here => exact h.root.elim id fun z => by cases z
  | on _ hc ih => exact (h.full _ ih _ hc).elim id fun z => by cases z
theorem eqI_nil {K : PySem.W.Frag} {H : Hp} {l p : Addr} {is : List Nat} {Q : VK} (hl : H l = some (.lst (iL is))) (hp : H p = some (.lst [])) (q : Q (.bl (!is.isEmpty)) H) : rNeD K (.ref l) (.ref p) H Q := by
  have ⟨h1, h2⟩ := ints_lay is
  refine ⟨.list (is.map fun i => .int (i : Nat)), .list [], .lst (SqL.of hl) (ints_dp is), .lst (SqL.of hp) .nil, ?_, by rfl, ?_⟩
  · unfold SeqAt.shaped
    simp only [PyData.canLay0, PyData.depth, h1, h2, Bool.true_and]
    exact decide_eq_true (by omega)
  have e : PyData.eqv (.list (is.map fun i => .int (i : Nat))) (.list []) = is.isEmpty := by
    rw [eqv_nil]
    cases is <;> simp
  rw [e]
  exact q
end Sl

set_option Elab.async false
set_option linter.all false
set_option maxRecDepth 100000
set_option maxHeartbeats 400000
/-! ## len, == of instances of own classes (with a dict) -/
namespace Sl
open PySem PySem.Spec PyProof.Rows L2
section
variable {X : Cx} {CX : CXT} {C g : Addr} {n : Nat} {sp : Sp} {E : XK}
/-- the callee runs below the running body -/
theorem run_own {pins : List (Addr × Obj)} {σ : L2.St} {H : Hp} {s : Shared} {A : Around} {Q : VK} {us : List Value} {ws : List V} (F : FnR X.prog X.w X.K X.mg X.base CX n g sp) (hr : Room n A) (e0 : Env0 X.prog X.w X.K X.mg X.base A X.stack s H) (hx : Passes CX X E) (I : Inv X pins σ H s) (r : Vals ws us) (h : sp ws H Q E) :
    codeAny (model X.prog X.w) A (.call (.ref g) ⟨us, []⟩) (fun r s' => match r with | .ok (.ret v) => EP X pins σ Q v s' | .ok _ => False | .error e => X.xe e s') s := by
  refine codeAny_mono (F A X.stack s H us ws Q E hr e0 r h) fun r s' hq => ?_
  cases r with
  | error e => exact hx pins σ H s e s' I hq
  | ok fl =>
    cases fl with
    | ret u => exact I.after hq
    | next => exact False.elim hq
    | brk => exact False.elim hq
    | cont => exact False.elim hq
/-- len(o): o.__len__() -/
def rLenOwn (C : Addr) (sp : Sp) (E : XK) : List V → Hp → VK → Prop := fun xs H Q => ∃ a dx fs, xs = [V.ref a] ∧ H a = some (.ins C dx fs) ∧ sp [.ref a] H (fun z H' => ∃ i : Nat, z = .int (i : Nat) ∧ i < 2 ^ 62 ∧ Q z H') E
theorem call_lenOwn (hs : PySem.W.findIn X.K (.ref C) "__len__" = some (some (.ref g))) (hf : PySem.W.isFn X.K (.ref g) = true) (F : FnR X.prog X.w X.K X.mg X.base CX n g sp) (hr : Room (n + 1) X.A) (hx : Passes CX X E) : CallR X (.builtin "len") (rLenOwn C sp E) := by
  intro pins s σ H xs us Q I r h
  obtain ⟨a, dx, fs, rfl, ea, q⟩ := h
  obtain ⟨u, rfl, ru⟩ := r.one
  cases (show u = Value.ref a from ru)
  obtain ⟨mA, O, _⟩ := ins_get I.hok ea
  obtain ⟨od, J, _⟩ := O.look
  obtain ⟨m, hF⟩ := I.fr
  refine PySem.W.len_K hF I.ok.mod.kin J hs hf (wpAny_mono (wpAny_call (run_own (us := [.ref a]) (ws := [.ref a]) F hr.in1 I.env0.in1 hx I (.cons rfl .nil) q)) (fun w s' z => ?_) fun _ _ x => x)
  obtain ⟨z', H', I', rz, i, ei, hi, qz⟩ := z
  subst ei
  obtain ⟨t, e⟩ := (show ∃ t, w = Value.int (i : Nat) t from rz)
  cases e
  exact ⟨⟨by omega, by omega⟩, .int (i : Nat), H', I'.tok _, ⟨_, rfl⟩, qz⟩
/-- x == y, both instances of the class at C whose __eq__ is at g -/
def rEqOwn (C : Addr) (sp : Sp) (E : XK) : R2 := fun x y H Q => ∃ a dx fs b dy gs, x = .ref a ∧ y = .ref b ∧ H a = some (.ins C dx fs) ∧ H b = some (.ins C dy gs) ∧ sp [x, y] H Q E
theorem op_eqOwn (hs : PySem.W.findIn X.K (.ref C) "__eq__" = some (some (.ref g))) (hf : PySem.W.isFn X.K (.ref g) = true) (F : FnR X.prog X.w X.K X.mg X.base CX n g sp) (hr : Room n X.A) (hx : Passes CX X E) : OpR X (compareOp .Eq) (rEqOwn C sp E) := by
  intro pins s σ H x y v u Q I rx ry h
  obtain ⟨a, dx, fs, b, dy, gs, rfl, rfl, ha, hb, q⟩ := h
  cases (show v = Value.ref a from rx)
  cases (show u = Value.ref b from ry)
  obtain ⟨mA, O, _⟩ := ins_get I.hok ha
  obtain ⟨mB, O', _⟩ := ins_get I.hok hb
  obtain ⟨od, J, _⟩ := O.look
  obtain ⟨od', J', _⟩ := O'.look
  obtain ⟨m, hF⟩ := I.fr
  refine PySem.W.cmp_K (op := .Eq) (tb := .ref C) hr.units0 hF I.ok.mod.kin J J'.type (by simp [PySem.W.notFirst]) hs hf ?_
  refine wpAny_mono (wpAny_call (run_own (us := [.ref a, .ref b]) (ws := [.ref a, .ref b]) F hr I.env0 hx I (.cons rfl (.cons rfl .nil)) q)) (fun w s' z => ?_) fun _ _ x => x
  obtain ⟨z', H', I', rz, qz⟩ := z
  exact SlX.cmpback rz ⟨z', H', I', rz, qz⟩
end
end Sl

set_option Elab.async false
set_option linter.all false
set_option maxRecDepth 100000
set_option maxHeartbeats 400000
/-! ## o[i], != of instances of own classes (with a dict) -/
namespace Sl
open PySem PySem.Spec PyProof.Rows L2
section
variable {X : Cx} {CX : CXT} {C g : Addr} {n : Nat} {sp : Sp} {E : XK} {a b : Expr} {ta tb : TE} {pos : Pos}
/-- o[i]: o.__getitem__(i) -/
def rIxOwn (C : Addr) (sp : Sp) (E : XK) : R2 := fun x y H Q => ∃ a dx fs, x = .ref a ∧ H a = some (.ins C dx fs) ∧ sp [x, y] H Q E
theorem pe_ixOwn (hs : PySem.W.findIn X.K (.ref C) "__getitem__" = some (some (.ref g))) (hf : PySem.W.fnIn X.K g = true) (hfn : PySem.W.isFn X.K (.ref g) = true) (F : FnR X.prog X.w X.K X.mg X.base CX n g sp) (hr : Room (n + 1) X.A) (hx : Passes CX X E) (ha : PE X a ta) (hb : PE X b tb)
    (hsl : ∀ (x : Addr) (i : Value), subscripted b true (.ref x) i = runValue (.builtin "lifetime.subscript" ⟨[.ref x, i], []⟩) := by intro _ _; with_unfolding_all rfl) : PE X (.Subscript a b pos) (tOp (rIxOwn C sp E) ta tb) := by
  refine ⟨fun pins s σ H Q I h => ?_⟩
  refine Subscript_ (binT ha hb I h fun v u s2 x y H2 I2 rx ry q => ?_)
  obtain ⟨a0, dx, fs, rfl, hH, q⟩ := q
  cases (show v = Value.ref a0 from rx)
  obtain ⟨mA, O, _⟩ := ins_get I2.hok hH
  obtain ⟨od, J, _⟩ := O.look
  obtain ⟨m, hF⟩ := I2.fr
  refine PySem.W.sub_K hF I2.ok.mod.kin J hs hf hfn ?_ (hsl a0 u)
  exact wpAny_mono (wpAny_call (run_own (us := [.ref a0, u]) (ws := [.ref a0, y]) F hr.in1 I2.env0.in1 hx I2 (.cons rfl (.cons ry .nil)) q)) (fun _ _ z => z) fun _ _ z => z
end
end Sl

set_option Elab.async false
set_option linter.all false
set_option maxRecDepth 100000
set_option maxHeartbeats 400000
/-! ## != of instances of own classes by their own __eq__ -/
namespace Sl
open PySem PySem.Spec PyProof.Rows L2 Builtin
section
variable {prog : Program} {w : World} {A : Around} {E : Value → Shared → Prop} {s : Shared} {K : PySem.W.Frag} {x y C L g : Addr} {h₀ : Heap} {m : Str → Option Value} {ox : Obj} {od : Option Obj}
theorem entry_neOwn (hu : A.units < cLine) (X : K.In s.heap) (I : PySem.W.InstAt s.heap x ox C od) (hs : PySem.W.findIn K (.ref C) "__eq__" = some (some (.ref g))) (hf : PySem.W.isFn K (.ref g) = true) {Q : Fin → Shared → Prop}
    (hcall : wpAny (model prog w) A (call (.ref g) [.ref x, .ref y]) (fun v s' => ∃ b, v = .bool b ∧ Q (.done (.ret (.bool (!b)))) s') E s) : wpAny (model prog w) A (Builtin.«object.__ne__» ⟨[.ref x, .ref y], []⟩) Q E s := by
  unfold Builtin.«object.__ne__»
  repeat (first
    | with_reducible refine wpAny_cRoomFor hu ?_
    | (refine wpAny_bind (m := callSpecialIfBound? (.ref x) (Str.ofString "__eq__") [.ref y])
        (PySem.W.ifBound_K X I hs hf (wpAny_mono hcall (fun r s' hr => by
          obtain ⟨b, rfl, hq⟩ := hr
          repeat (first | exact hq | exact wpAny_pure hq | exact wpAny_truthy_bool hq | (refine wpAny_bind (m := truthy (.bool _)) (wpAny_truthy_bool ?_)) | wp_step)) fun _ _ e => e)))
    | wp_step)
theorem ifBound_objNe {M : Model} {args : List Value} {Q : Option Value → Shared → Prop} (X : K.In s.heap) (I : PySem.W.InstAt s.heap x ox C od) (hs : PySem.W.findIn K (.ref C) "__ne__" = some (some (.builtin "object.__ne__")))
    (h : wpAny M A (call (.builtin "object.__ne__") (.ref x :: args)) (fun v => Q (some v)) E s) : wpAny M A (callSpecialIfBound? (.ref x) "__ne__" args) Q E s := by
  simp only [callSpecialIfBound?, bindSpecialIfBound?]
  refine wpAny_holding (wpAny_bind (wpAny_bind (wpAny_bind (I.type.here ((PySem.W.looks_findIn X hs).here ?_)))))
  refine wpAny_bind (wpAny_askSetting (wpAny_ite ?_))
  have fin : wpAny M A (call (.builtin "object.__ne__") ([.ref x] ++ args) >>= fun v => pure (some v)) Q E s := wpAny_bind (wpAny_mono h (fun v s' h' => wpAny_pure h') fun _ _ h' => h')
  split
  · exact wpAny_bind (wpAny_of_eq (PySem.F.cmp_object.ne.bind _) (wpAny_pure (by exact fin)))
  · exact wpAny_tryCatch (wpAny_bind (wpAny_of_eq (PySem.F.cmp_object.ne.bind _) (wpAny_pure (by exact fin))))
theorem call_objNe {Q : Value → Shared → Prop} (hu : A.in1.units < cLine) (X : K.In s.heap) (I : PySem.W.InstAt s.heap x ox C od) (hm : PySem.W.mroIn K C (.type "object") = some true) (hs : PySem.W.findIn K (.ref C) "__eq__" = some (some (.ref g))) (hf : PySem.W.isFn K (.ref g) = true)
    (hcall : wpAny (model prog w) A.in1 (call (.ref g) [.ref x, .ref y]) (fun v s' => ∃ b, v = .bool b ∧ Q (.bool (!b)) s') E s) : wpAny (model prog w) A (call (.builtin "object.__ne__") [.ref x, .ref y]) Q E s :=
  wpAny_call (codeAny_call_builtin PySem.F.cmp_object.ne.plain PySem.F.cmpEntry_ne (PySem.W.check_slot PySem.F.cmpKind_ne PySem.F.cmpSplit_ne (I.type.andThen (PySem.W.looks_mroIn X hm)) (PySem.F.cmpArgs_ne _ _) (entry_neOwn hu X I hs hf hcall)))
end
section
variable {X : Cx} {CX : CXT} {C g : Addr} {n : Nat} {sp : Sp} {E : XK}
/-- x != y, both instances of the class at C whose __eq__ is at g -/
def rNeOwn (C : Addr) (sp : Sp) (E : XK) : R2 := fun x y H Q => ∃ a dx fs b dy gs, x = .ref a ∧ y = .ref b ∧ H a = some (.ins C dx fs) ∧ H b = some (.ins C dy gs) ∧ sp [x, y] H (fun z H' => ∃ k : Bool, z = .bl k ∧ Q (.bl (!k)) H') E
theorem op_neOwn (hne : PySem.W.findIn X.K (.ref C) "__ne__" = some (some (.builtin "object.__ne__"))) (hm : PySem.W.mroIn X.K C (.type "object") = some true) (hs : PySem.W.findIn X.K (.ref C) "__eq__" = some (some (.ref g))) (hf : PySem.W.isFn X.K (.ref g) = true)
    (F : FnR X.prog X.w X.K X.mg X.base CX n g sp) (hr : Room (n + 1) X.A) (hx : Passes CX X E) : OpR X (compareOp .NotEq) (rNeOwn C sp E) := by
  intro pins s σ H x y v u Q I rx ry h
  obtain ⟨a, dx, fs, b, dy, gs, rfl, rfl, ha, hb, q⟩ := h
  cases (show v = Value.ref a from rx)
  cases (show u = Value.ref b from ry)
  obtain ⟨mA, O, _⟩ := ins_get I.hok ha
  obtain ⟨mB, O', _⟩ := ins_get I.hok hb
  obtain ⟨od, J, _⟩ := O.look
  obtain ⟨od', J', _⟩ := O'.look
  have one : wpAny (model X.prog X.w) X.A (tryCompare (.ref a) "__ne__" (.ref b)) (fun r s' => ∃ v, r = some v ∧ EP X pins σ Q v s') X.xe s := by
    unfold tryCompare
    refine wpAny_bind (ifBound_objNe I.kIn J hne (call_objNe hr.in1.units0 I.kIn J hm hs hf (wpAny_mono (wpAny_call (run_own (us := [.ref a, .ref b]) (ws := [.ref a, .ref b]) F hr.in1 I.env0.in1 hx I (.cons rfl (.cons rfl .nil)) q)) (fun w' s' z => ?_) fun _ _ e => e)))
    obtain ⟨z', H', I', rz, k, ek, qz⟩ := z
    subst ek
    cases (show w' = Value.bool k from rz)
    exact ⟨k, rfl, wpAny_pure ⟨.bool (!k), rfl, .bl (!k), H', I', rfl, qz⟩⟩
  show wpAny (model X.prog X.w) X.A (richCompare .NotEq (.ref a) (.ref b)) (EP X pins σ Q) X.xe s
  unfold richCompare
  simp only [oneThing_ref]
  refine wpAny_holding ?_
  refine wpAny_bind (wpAny_cRoomFor hr.units0 ?_)
  rw [cmpInfo_NotEq]
  dsimp only
  refine wpAny_bind (J.type.here (wpAny_bind (J'.type.here ?_)))
  rw [show (Value.ref C != Value.ref C) = false from by simp]
  simp only [Bool.false_eq_true, if_false]
  refine wpAny_bind (wpAny_pure ?_)
  simp only [Bool.false_eq_true, if_false]
  refine wpAny_bind (wpAny_mono one (fun r s' z => ?_) fun _ _ e => e)
  obtain ⟨v, rfl, hq⟩ := z
  exact wpAny_pure hq
end
end Sl

set_option Elab.async false
set_option linter.all false
set_option maxRecDepth 100000
set_option maxHeartbeats 400000
/-! ## str(o) by own __str__ -/
namespace Sl
open PySem PySem.Spec PyProof.Rows L2
section
variable {X : Cx} {CX : CXT} {C g : Addr} {n : Nat} {sp : Sp} {E : XK}
def rStrOwn (C : Addr) (sp : Sp) (E : XK) : List V → Hp → VK → Prop := fun xs H Q => ∃ a dx fs, xs = [V.ref a] ∧ H a = some (.ins C dx fs) ∧ sp [.ref a] H (fun z H' => ∃ t : Str, z = .str t ∧ Q z H') E
theorem call_strOwn (hs : PySem.W.findIn X.K (.ref C) "__str__" = some (some (.ref g))) (hf : PySem.W.isFn X.K (.ref g) = true) (F : FnR X.prog X.w X.K X.mg X.base CX n g sp) (hr : Room (n + 2) X.A) (hx : Passes CX X E) : CallR X (.type "str") (rStrOwn C sp E) := by
  intro pins s σ H xs us Q I r h
  obtain ⟨a, dx, fs, rfl, ea, q⟩ := h
  obtain ⟨u, rfl, ru⟩ := r.one
  cases (show u = Value.ref a from ru)
  obtain ⟨mA, O, _⟩ := ins_get I.hok ea
  obtain ⟨od, J, _⟩ := O.look
  refine PySem.W.kso_call hr.in1.in1.units0 I.kIn J hs hf (wpAny_mono (wpAny_call (run_own (us := [.ref a]) (ws := [.ref a]) F hr.in1.in1 I.env0.in1.in1 hx I (.cons rfl .nil) q)) (fun w s' z => ?_) fun _ _ x => x)
  obtain ⟨z', H', I', rz, t, et, qz⟩ := z
  subst et
  obtain ⟨tk, e⟩ := (show ∃ tk, w = Value.str t tk from rz)
  cases e
  exact ⟨.str t, H', I', ⟨_, rfl⟩, qz⟩
end
end Sl

set_option Elab.async false
set_option linter.all false
set_option maxRecDepth 100000
set_option maxHeartbeats 400000
/-! ## o == y by own __eq__, y of any kind that isinstance's rule knows -/
namespace Sl
open PySem PySem.Spec PyProof.Rows L2
section
variable {X : Cx} {CX : CXT} {C g : Addr} {n : Nat} {sp : Sp} {E : XK}
def rEqOwnT (K : PySem.W.Frag) (C : Addr) (sp : Sp) (E : XK) : R2 := fun x y H Q => ∃ a dx fs t, x = .ref a ∧ H a = some (.ins C dx fs) ∧ TyX K H y t ∧ PySem.W.notFirst K C t = true ∧ sp [x, y] H (fun z H' => ∃ k : Bool, z = .bl k ∧ Q z H') E
theorem op_eqOwnT (hs : PySem.W.findIn X.K (.ref C) "__eq__" = some (some (.ref g))) (hf : PySem.W.isFn X.K (.ref g) = true) (F : FnR X.prog X.w X.K X.mg X.base CX n g sp) (hr : Room n X.A) (hx : Passes CX X E) : OpR X (compareOp .Eq) (rEqOwnT X.K C sp E) := by
  intro pins s σ H x y v u Q I rx ry h
  obtain ⟨a, dx, fs, t, rfl, ha, ty, nf, q⟩ := h
  cases (show v = Value.ref a from rx)
  obtain ⟨mA, O, _⟩ := ins_get I.hok ha
  obtain ⟨od, J, _⟩ := O.look
  obtain ⟨P, Z, p, _⟩ := kit_of I ry ty
  obtain ⟨m, hF⟩ := I.fr
  refine PySem.W.cmp_K (op := .Eq) (tb := t) hr.units0 hF I.ok.mod.kin J (Z.ty _ _ I.kIn p) nf hs hf ?_
  refine wpAny_mono (wpAny_call (run_own (us := [.ref a, u]) (ws := [.ref a, y]) F hr I.env0 hx I (.cons rfl (.cons ry .nil)) q)) (fun w s' z => ?_) fun _ _ x => x
  obtain ⟨z', H', I', rz, k, ek, qz⟩ := z
  subst ek
  exact SlX.cmpback rz ⟨.bl k, H', I', rz, qz⟩
end
end Sl

set_option Elab.async false
set_option linter.all false
set_option maxRecDepth 100000
set_option maxHeartbeats 400000
/-! ## for x in o, o of an own class whose __iter__ gives iter(tuple) -/
namespace Sl
open PySem PySem.Spec PyProof.Rows L2
/-- as FnR, where the promise may speak of how many places the heap has -/
def FnY (P : Program) (w : World) (K : PySem.W.Frag) (mg : Str → Option Value) (base : Heap) (CX : CXT) (k : Nat) (f : Addr) (sp : Nat → Sp) : Prop :=
  ∀ (A : Around) (outer : List PySem.Env) (s : Shared) (H : Hp) (us : List Value) (vs : List V) (Q : VK) (E : XK), Room k A → Env0 P w K mg base A outer s H → Vals vs us → sp s.heap.objs.size vs H Q E →
    codeAny (model P w) A (.call (.ref f) ⟨us, []⟩) (CR CX outer P w H s Q E) s
section
variable {P : Program} {w : World} {K : PySem.W.Frag} {mg : Str → Option Value} {base : Heap}
theorem okY {x qual : Str} {st : Stmt} {f : Addr} {fd : FuncData} {N ps : List Str} {k : Nat} {sp : Nat → Sp} (F : Fun K x qual st f fd) (S : FnScope N ps (defScope st)) (bd : Binds K fd ps []) (size : ∀ n xs G Q E, sp n xs G Q E → xs.length = ps.length)
    (body : ∀ (cdv : Value) (A : Around) (l : List PySem.Env) (z : Shared) (G : Hp) (xs : List V) (Q : VK) (E : XK), Room k (A.deeper (envOfC qual (defScope st) z.heap.objs.size f cdv)) → sp z.heap.objs.size xs G Q E →
      ∃ t, PSs (cxOf (L2.CX P w) P w K mg base N qual (defScope st) f cdv A l z G E) (defBody st) t ∧ t { nx := fun _ G' => Q .non G', rt := Q } (start N xs) G) :
    FnY P w K mg base (L2.CX P w) (k + 1) f sp := by
  obtain ⟨oc, od, kV, doc, pm, an, cdv, ct, osl, rfl, lk, hcd⟩ := F.ex
  intro A l z G us xs Q E hr e0 r hsp
  have hl := size _ _ _ _ _ hsp
  have inK : K.In z.heap := e0.mod.kin.keeps fun b o e => (e0.bs b o e).1
  have lim : z.heap.NoLimit := e0.mod.nolimit.keeps fun b o e => (e0.bs b o e).1
  have hb := bd z us inK (by rw [List.append_nil, ← r.length]; exact hl)
  rw [List.append_nil] at hb
  have kinds : ∀ y ∈ ps.zip us, (defScope st).names.lookup y.1 = some .local ∨ ((defScope st).names.lookup y.1 = some .cell ∧ ((cellsFrom (z.heap.objs.size + 1) (defScope st).names []).lookup y.1).isSome = true) := by
    intro ⟨n, v⟩ hy
    cases S.par n (List.of_mem_zip hy).1 with
    | inl q => exact Or.inl q
    | inr q => exact Or.inr ⟨q, PySem.W.cellsFrom_some _ _ _ (Or.inl q)⟩
  apply codeAny_call_function hr.depth (inK _ _ lk) rfl S.co S.gen rfl (PySem.W.codeRec_of inK hcd) (hb _ _ _ _ ?_)
  apply wpAny_newFunctionEnv_cells S.kind kinds
  intro env he z1 y
  subst he
  refine ⟨lim.keeps y.toInCall.keep, codeAny_func ?_⟩
  obtain ⟨t, ht, hq⟩ := body cdv A l z G xs Q E (hr.deeper _) hsp
  have I0 := inv_start (CX := L2.CX P w) (N := N) (qual := qual) (scope := defScope st) (f := f) (cd := cdv) (E := E) S hr.hd e0 hl r y
  apply wpAny_mono (ht.run [] z1 (start N xs) G _ I0 hq) ?_ (fun e z' hz => hz)
  intro fl z' hz
  match fl, hz with
  | .ret u, ⟨v, σ', G', J, rv, q⟩ => exact ⟨v, G', J.os, J.bare, J.base, J.hok, rv, q⟩
  | .next, ⟨σ', G', J, q⟩ => exact ⟨V.non, G', J.os, J.bare, J.base, J.hok, rfl, q⟩
  | .brk, ⟨_, _, _, q⟩ => exact q.elim
  | .cont, ⟨_, _, _, q⟩ => exact q.elim
end
/-- at it the iterator of the tuple at t, at its place i -/
def ItT (t it : Addr) (i : Nat) : HO := .ext fun h => h.IsTupleIter it t i
theorem itT_ok {P : Program} {w : World} {H : Hp} {h : Heap} {t it : Addr} {i : Nat} (e : h.IsTupleIter it t i) : ObjOk P w H h it (ItT t it i) := by
  refine ⟨e, ?_, fun h1 h2 q k => q.at fun o => k o⟩
  obtain ⟨o, ho, _⟩ := e
  exact ⟨o, ho⟩
section
variable {X : Cx} {pins : List (Addr × Obj)} {σ : L2.St} {H : Hp} {s : Shared} {t it : Addr} {i : Nat}
theorem itT_get (I : Inv X pins σ H s) (e : H it = some (ItT t it i)) : s.heap.IsTupleIter it t i := (I.hok it _ e).1
/-- iter(t) -/
def rIterT (K : PySem.W.Frag) (n : Nat) : List V → Hp → VK → Prop := fun xs H Q => ∃ (t : Addr) (zs : List V), xs = [.ref t] ∧ SqT K H t zs ∧ ∀ it, H it = Option.none → n ≤ it → Q (.ref it) (upd H it (ItT t it 0))
theorem call_iterT : CallR X (.builtin "iter") (rIterT X.K X.s_0.heap.objs.size) := by
  intro pins s σ H xs us Q I r h
  obtain ⟨l, zs, rfl, hq, q⟩ := h
  obtain ⟨u, rfl, ru⟩ := r.one
  cases (show u = Value.ref l from ru)
  obtain ⟨its, rv, pl, hz⟩ := I.tuple hq
  have e : wpAny (model X.prog X.w) X.A (call (.builtin "iter") [.ref l]) (fun u s' => u = .ref s.heap.objs.size ∧ s' = { s with heap := s.heap.push { cls := .type "tuple_iterator", data := .fields #[.ref l, .int 0 0] } }) (fun _ _ => False) s := by
    refine Calls.call_function_entry (by decide +kernel) (by decide +kernel) PySem.W.kdk_entry_iter (PySem.W.kdk_args_iter _) ?_
    unfold Builtin.«iter»
    refine wpAny_bind (m := someArgs "iter" 1 2 _) (wpAny_of_eq (a := [Value.ref l]) (by first | rfl | kernel_rfl!) ?_)
    show wpAny _ _ (pyIter (.ref l) >>= _) _ _ _
    refine wpAny_bind (wpAny_pyIter_tuple (show s.heap.IsTuple l its.toArray from pl) ?_)
    exact wpAny_pure ⟨_, rfl, rfl, rfl⟩
  refine wpAny_mono e (fun u s' h => ?_) fun _ _ z => z.elim
  obtain ⟨rfl, rfl⟩ := h
  exact ⟨.ref s.heap.objs.size, _, I.laid (t' := s.toks) (fun b u e => Heap.get?_push_of_some _ e) (Nat.le_refl _) (itT_ok ⟨_, Heap.get?_push_size _ rfl, rfl, rfl⟩), rfl, q _ (I.hok.fresh (Nat.le_refl _)) I.sz⟩
end
section
variable {X : Cx} {CX : CXT} {C g : Addr} {n : Nat} {sp : Nat → Sp} {E : XK}
/-- what an own __iter__ gives: a tuple's iterator -/
def spIt (K : PySem.W.Frag) (sp : Nat → Sp) (E : XK) (a : Addr) (H : Hp) (R : Addr → Hp → Prop) : Prop :=
  ∀ m, sp m [.ref a] H (fun v H' => ∃ (t it : Addr) (zs : List V), v = .ref it ∧ H' it = some (ItT t it 0) ∧ m ≤ it ∧ SqT K (ItX.dropH H' it) t zs ∧ R t (ItX.dropH H' it)) E
/-- the iterator of an own instance has come -/
theorem own_it {pins : List (Addr × Obj)} {σ : L2.St} {H : Hp} {s : Shared} {A : Around} {a dx : Addr} {fs : List (Str × V)} {R : Addr → Hp → Prop} {W : Value → Shared → Prop} (hs : PySem.W.findIn X.K (.ref C) "__iter__" = some (some (.ref g))) (hf : PySem.W.isFn X.K (.ref g) = true) (F : FnY X.prog X.w X.K X.mg X.base CX n g sp)
    (hr : Room n A) (hA : A.frames = X.A.frames) (hx : Passes CX X E) (I : Inv X pins σ H s) (ha : H a = some (.ins C dx fs)) (h : spIt X.K sp E a H R)
    (hW : ∀ (t it : Addr) (H' : Hp) (s' : Shared) (zs : List V), Inv X pins σ H' s' → s'.heap.IsTupleIter it t 0 → FpOk X pins H' it → s.heap.objs.size ≤ it → SqT X.K H' t zs → R t H' → W (.ref it) s') : wpAny (model X.prog X.w) A (pyIter (.ref a)) W X.xe s := by
  obtain ⟨mA, J, _⟩ := ins_get I.hok ha
  obtain ⟨od, J, _⟩ := J.look
  obtain ⟨m, hF⟩ := I.fr
  refine PySem.W.owit_iter hF I.ok.mod.kin J hs hf ?_
  have e0 : Env0 X.prog X.w X.K X.mg X.base A X.stack s H := by
    have e := I.env0
    exact ⟨by rw [hA]; exact e.frames, e.mod, e.bs, e.bsz, e.funs, e.frf, e.hok, e.bare⟩
  refine wpAny_call (codeAny_mono (F A X.stack s H [.ref a] [.ref a] _ E hr e0 (.cons rfl .nil) (h s.heap.objs.size)) fun r s' hq => ?_)
  cases r with
  | error e => exact hx pins σ H s e s' I hq
  | ok fl =>
    cases fl with
    | next => exact False.elim hq
    | brk => exact False.elim hq
    | cont => exact False.elim hq
    | ret u =>
      obtain ⟨v, H', I', rv, t, it, zs, ev, eit, hm, sq, q⟩ := I.after hq
      subst ev
      cases rv
      have st := itT_get I' eit
      have eit' := eit
      unfold ItT at eit'
      unfold PySem.W.OwitIt
      exact wpAny_specialOf st.typeIs PySem.F.slot_tuple_iterator_next.lookup (hW t it _ s' zs (ItX.inv_drop I' eit') st (ItX.inv_fp I' eit' (Nat.le_trans I.sz hm)) hm sq q)
/-- for x in o -/
def iOwn (K : PySem.W.Frag) (C : Addr) (sp : Nat → Sp) (E : XK) (te : TE) : TI := fun σ H R => te σ H fun x H1 => ∃ a dx fs, x = .ref a ∧ H1 a = some (.ins C dx fs) ∧ spIt K sp E a H1 fun t H' => R (Itt K t) H'
theorem pi_own {tg e : Expr} {te : TE} (hs : PySem.W.findIn X.K (.ref C) "__iter__" = some (some (.ref g))) (hf : PySem.W.isFn X.K (.ref g) = true) (F : FnY X.prog X.w X.K X.mg X.base CX n g sp) (hr : Room n X.A) (hx : Passes CX X E) (he : PE X e te) : PI X tg e (iOwn X.K C sp E te) := by
  refine ⟨fun pins s σ H R I h => ?_⟩
  refine thn (he.run pins s σ H _ I h) fun v s1 ⟨x, H1, I1, r1, a, dx, fs, ex, ha, q⟩ => ?_
  subst ex
  cases r1
  refine own_it hs hf F hr rfl hx I1 ha q fun t it H' s' zs I' st fp hm sq hR => ?_
  refine ⟨it, [it], _, _, H', rfl, I', turn_tuple t it, st, fun b hb => ?_, hR⟩
  have e : b = it := by simpa using hb
  rw [e]
  exact fp
end
end Sl

set_option Elab.async false
set_option linter.all false
set_option maxRecDepth 100000
set_option maxHeartbeats 400000
/-! ## what a caller knows of a def, a method, a property, a class -/
namespace Sl
open PySem PySem.Spec PyProof.Rows L2
section
variable (P : Program) (w : World) (K : PySem.W.Frag) (mg : Str → Option Value) (base : Heap)
/-- a def of the top that keeps sp at level n -/
structure Uf (x : Str) (ps : List Str) (n : Nat) (sp : Sp) where
  f : Addr
  fd : FuncData
  g : mg x = some (.ref f)
  kp : PySem.W.keepIn K (.ref f) = true
  b : Binds K fd ps []
  G : FnOk P w K mg base CX0 n f fd ps sp
/-- .. where no repr is under way -/
structure Ug (x : Str) (ps : List Str) (n : Nat) (sp : Sp) where
  f : Addr
  fd : FuncData
  g : mg x = some (.ref f)
  kp : PySem.W.keepIn K (.ref f) = true
  b : Binds K fd ps []
  G : FnG P w K mg base (L2.CX P w) n f fd ps sp
/-- a method of the class at C -/
structure Um (C : Addr) (m : Str) (ps : List Str) (n : Nat) (sp : Sp) where
  f : Addr
  fd : FuncData
  M : Meth K C m f
  b : Binds K fd ps []
  G : FnOk P w K mg base CX0 n f fd ps sp
/-- a property of the class at C -/
structure Up (C : Addr) (m : Str) (n : Nat) (sp : Sp) where
  p : Addr
  f : Addr
  fd : FuncData
  M : PropOf K C m p f
  b : Binds K fd ["self"] []
  G : FnOk P w K mg base CX0 n f fd ["self"] sp
/-- an own __iter__ -/
structure Uy (C : Addr) (n : Nat) (sp : Nat → Sp) where
  f : Addr
  M : Meth K C "__iter__" f
  G : FnY P w K mg base (L2.CX P w) n f sp
/-- the making of an instance, a class's own def -/
structure Ui (C : Addr) (x : Str) (n : Nat) (sp : Sp) where
  f : Addr
  g : mg x = some (.ref C)
  M : Mk K C f
  G : FnR P w K mg base CX0 n f sp
structure Uc (C : Addr) (x m : Str) (n : Nat) (sp : Sp) where
  f : Addr
  p : Addr
  mc : Value
  g : mg x = some (.ref C)
  rd : ClX.CRead K C mc
  cm : ClX.CMet K C mc m p f
  G : FnR P w K mg base CX0 n f sp
end
theorem Um.R {P : Program} {w : World} {K : PySem.W.Frag} {mg : Str → Option Value} {base : Heap} {C : Addr} {m : Str} {ps : List Str} {n : Nat} {sp : Sp} (u : Um P w K mg base C m ps n sp) : FnR P w K mg base CX0 n u.f sp :=
  (u.G.raw u.b .nil).imp fun vs H Q E h => by rw [List.append_nil]; exact h
/-- a def of the top (before its promise is shown) -/
structure Df (K : PySem.W.Frag) (mg : Str → Option Value) (x : Str) (st : Stmt) (ps : List Str) where
  f : Addr
  fd : FuncData
  F : Fun K x x st f fd
  b : Binds K fd ps []
  g : mg x = some (.ref f)
end Sl

set_option Elab.async false
set_option linter.all false
set_option maxRecDepth 100000
set_option maxHeartbeats 1000000
/-! ### zip of any two things, by what iter gives of them; list(zip(x, y)) -/
namespace PySem
abbrev zgT (hp : Heap) (i1 i2 : Value) : Heap := hp.push { cls := .type "tuple", data := .seq #[i1, i2] }
abbrev zgO (hp : Heap) (i1 i2 : Value) : Heap := (zgT hp i1 i2).push { cls := .type "tuple", data := .seq #[.none, .none] }
abbrev zgZ (hp : Heap) (i1 i2 : Value) : Heap := (zgO hp i1 i2).push { cls := .type "zip", data := .fields #[.none, .bool false, .bool false, .ref hp.objs.size, .ref (zgT hp i1 i2).objs.size] }
section
variable {prog : Program} {w : World} {A : Around} {E : Value → Shared → Prop} {s : Shared}
theorem newClass_zip (a b : Value) : Builtin.SmallTypes.newClass "zip" ⟨[.type "zip", a, b], []⟩ = pure (.type "zip", [a, b]) := by
  unfold Builtin.SmallTypes.newClass
  simp only [isType, sub_zip, pure_bind, Bool.not_true, Bool.false_eq_true, if_false]
theorem zg_new (x y : Value) : MeetsIn prog w (Builtin.«zip.__new__» ⟨[.type "zip", x, y], []⟩)
    (fun A R s => wpAny (model prog w) A.in1 (pyIter x) (fun i1 s1 => wpAny (model prog w) A.in1 (pyIter y) (fun i2 s2 => R (.ok (.ret (.ref (zgO s2.heap i1 i2).objs.size))) { s2 with heap := zgZ s2.heap i1 i2 }) (fun e s2 => R (.error e) s2) s1) (fun e s1 => R (.error e) s1) s) :=
  .of_wp fun A R s h => by
    unfold Builtin.«zip.__new__»
    refine wpAny_bind (wpAny_of_eq (newClass_zip _ _) ?_)
    try dsimp only
    show wpAny _ _ (Builtin.SmallTypes.iterAll [x, y] >>= _) _ _ _
    refine wpAny_bind ?_
    unfold Builtin.SmallTypes.iterAll
    refine wpAny_bind ?_
    simp only [List.forIn_cons, List.forIn_nil]
    refine wpAny_bind (wpAny_bind (wpAny_holding (wpAny_mono h (fun i1 s1 h1 => ?_) fun _ _ z => z)))
    refine wpAny_pure ?_
    refine wpAny_bind (wpAny_bind (wpAny_holding (wpAny_mono h1 (fun i2 s2 h2 => ?_) fun _ _ z => z)))
    refine wpAny_pure (wpAny_pure (wpAny_pure ?_))
    show wpAny _ _ (newTuple [i1, i2] >>= _) _ _ _
    refine wpAny_bind (wpAny_newTuple ?_)
    show wpAny _ _ (newTuple [.none, .none] >>= _) _ _ _
    refine wpAny_bind (wpAny_newTuple ?_)
    show wpAny _ _ (newObj (.type "zip") (.fields #[.none, .bool false, .bool false, .ref s2.heap.objs.size, .ref (zgT s2.heap i1 i2).objs.size]) >>= _) _ _ _
    refine wpAny_bind (wpAny_newObj_type ?_)
    exact wpAny_pure ⟨_, rfl, h2⟩
theorem zg_call {x y : Value} {Q : Value → Shared → Prop}
    (hx : wpAny (model prog w) A.in1.in1 (pyIter x) (fun i1 s1 => wpAny (model prog w) A.in1.in1 (pyIter y) (fun i2 s2 => ∀ h', IsZip h' (s2.heap.objs.size + 2) s2.heap.objs.size (s2.heap.objs.size + 1) .none → IsTupOf2 h' s2.heap.objs.size i1 i2 → IsTupOf2 h' (s2.heap.objs.size + 1) .none .none → h'.objs.size = s2.heap.objs.size + 3 →
      (∀ c o, s2.heap.get? c = some o → h'.get? c = some o) → Q (.ref (s2.heap.objs.size + 2)) { s2 with heap := h' }) E s1) E s) :
    wpAny (model prog w) A (call (.type "zip") [x, y]) Q E s := by
  refine callType_newIn F.called_zip (by decide) (F.typeCall_zip_2 _ _) (F.newCall_zip_2 _ _) (fun obj => F.args_object_init_3 obj _ _) F.entry_zip_new (zg_new x y) ?_
  show wpAny (model prog w) A.in1.in1 (pyIter x) _ _ _
  refine wpAny_mono hx (fun i1 s1 h1 => ?_) fun _ _ z => z
  refine wpAny_mono h1 (fun i2 s2 h2 => ?_) fun _ _ z => z
  have z1 : (zgT s2.heap i1 i2).objs.size = s2.heap.objs.size + 1 := Heap.size_push ..
  have z2 : (zgO s2.heap i1 i2).objs.size = s2.heap.objs.size + 2 := by rw [Heap.size_push, z1]
  have z3 : (zgZ s2.heap i1 i2).objs.size = s2.heap.objs.size + 3 := by rw [Heap.size_push, z2]
  have gz : (zgZ s2.heap i1 i2).get? (zgO s2.heap i1 i2).objs.size = some _ := Heap.get?_push_size _ rfl
  have gO : (zgZ s2.heap i1 i2).get? (zgT s2.heap i1 i2).objs.size = some _ := Heap.get?_push_of_some _ (Heap.get?_push_size _ rfl)
  have gT : (zgZ s2.heap i1 i2).get? s2.heap.objs.size = some _ := Heap.get?_push_of_some _ (Heap.get?_push_of_some _ (Heap.get?_push_size _ rfl))
  rw [z2, z1] at gz
  rw [z1] at gO
  have hq := h2 _ gz gT gO z3 fun c o e => Heap.get?_push_of_some _ (Heap.get?_push_of_some _ (Heap.get?_push_of_some _ e))
  show _ ∧ _
  rw [z2]
  exact ⟨⟨_, gz, rfl⟩, hq⟩
end
section
variable {prog : Program} {w : World} {A : Around} {E : Value → Shared → Prop} {s : Shared} {z TI TO T i1 i2 : Addr} {fp1 fp2 : List Addr} {n1 n2 i : Nat} {P1 P2 : Nat → Value → Prop} {St1 St2 : Nat → Heap → Prop} {f : Bool} {oT : Obj}
theorem zh_next_item {Q : Value → Shared → Prop} (S : ZipSep2 z TI TO i1 i2 fp1 fp2) (D1 : Draws prog w A i1 fp1 n1 P1 St1) (D2 : Draws prog w A i2 fp2 n2 P2 St2)
    (hz : IsZipHeld s.heap z TI TO T f) (hT : s.heap.get? T = some oT) (hTI : IsTupOf2 s.heap TI (.ref i1) (.ref i2)) (st1 : St1 i s.heap) (st2 : St2 i s.heap) (hlt1 : i < n1) (hlt2 : i < n2)
    (hQ : ∀ x1 x2 h' tk, P1 i x1 → P2 i x2 → IsZipHeld h' z TI TO T true → St1 (i + 1) h' → St2 (i + 1) h' → IsTupOf2 h' s.heap.objs.size x1 x2 → h'.objs.size = s.heap.objs.size + 1 →
      (∀ c o, c ≠ z → c ≠ i1 → c ≠ i2 → s.heap.get? c = some o → h'.get? c = some o) → Q (.ref s.heap.objs.size) { s with heap := h', toks := tk }) :
    wpAny (model prog w) A (Builtin.«zip.__next__» ⟨[.ref z], []⟩) (fun fin s' => ∃ v, fin = .done (.ret v) ∧ Q v s') E s := by
  obtain ⟨hp, g, d, tk0, os⟩ := s
  show wpAny _ _ (field (.ref z) 2 >>= _) _ _ _
  refine wpAny_bind (wpAny_field hz rfl (x := .bool false) rfl ?_)
  show wpAny _ _ (field (.ref z) 3 >>= _) _ _ _
  refine wpAny_bind (wpAny_field hz rfl (x := .ref TI) rfl ?_)
  refine wpAny_bind (wpAny_seqItems hTI rfl ?_)
  show wpAny _ _ (Builtin.SmallTypes.ownedTupleIsFree (.ref z) >>= _) _ _ _
  refine wpAny_bind (wpAny_tupleHeld_zip hz hT fun h₁ hz₁ hs₁ => ?_)
  simp only [Bool.false_eq_true, if_false]
  refine wpAny_bind ?_
  rw [← Array.forIn_toList]
  simp only [List.forIn_cons, List.forIn_nil]
  replace hs₁ : Heap.SameBut z hp h₁ := hs₁
  refine wpAny_bind (wpAny_bind (wpAny_holding ?_))
  show wpAny _ _ (Builtin.SmallTypes.nextOf (.ref i1) >>= _) _ _ ⟨h₁, g, d, tk0, os⟩
  refine wpAny_bind (D1.item i _ _ _ hlt1 (D1.over st1 hs₁ S.zf1) fun x1 p1 tk1 hx1 sn1 hp1 => wpAny_pure ?_)
  replace hp1 : Heap.SameBut i1 h₁ p1 := hp1
  refine wpAny_pure ?_
  refine wpAny_bind (wpAny_bind (wpAny_holding ?_))
  show wpAny _ _ (Builtin.SmallTypes.nextOf (.ref i2) >>= _) _ _ ⟨p1, g, d, tk1, os⟩
  refine wpAny_bind (D2.item i _ _ _ hlt2 (D2.over (D2.over st2 hs₁ S.zf2) hp1 S.sep1_2) fun x2 p2 tk2 hx2 sn2 hp2 => wpAny_pure ?_)
  replace hp2 : Heap.SameBut i2 p1 p2 := hp2
  refine wpAny_pure (wpAny_pure ?_)
  show wpAny _ _ (newTuple [x1, x2] >>= _) _ _ _
  refine wpAny_bind (wpAny_newTuple ?_)
  have hsz : p2.objs.size = hp.objs.size := by rw [hp2.1, hp1.1, hs₁.1]
  have hz2 : IsZipHeld p2 z TI TO T true := hp2.extBut _ _ S.zi2 (hp1.extBut _ _ S.zi1 hz₁)
  have hk : ∀ c o, c ≠ z → c ≠ i1 → c ≠ i2 → hp.get? c = some o → p2.get? c = some o := fun c o c1 c2 c3 e => hp2.extBut _ _ c3 (hp1.extBut _ _ c2 (hs₁.extBut _ _ c1 e))
  have sn1' : St1 (i + 1) p2 := D1.over sn1 hp2 S.sep2_1
  refine wpAny_pure ⟨_, rfl, ?_⟩
  show Q (.ref p2.objs.size) _
  have hpr : IsTupOf2 (p2.push { cls := .type "tuple", data := .seq #[x1, x2] }) p2.objs.size x1 x2 := Heap.get?_push_size _ rfl
  have hz4 : (p2.push { cls := .type "tuple", data := .seq #[x1, x2] }).objs.size = p2.objs.size + 1 := Heap.size_push ..
  rw [hsz] at hpr hz4 ⊢
  exact hQ x1 x2 _ tk2 hx1 hx2 (Heap.get?_push_of_some _ hz2) (D1.frame _ _ _ sn1' fun b _ o e => Heap.get?_push_of_some _ e) (D2.frame _ _ _ sn2 fun b _ o e => Heap.get?_push_of_some _ e) hpr hz4 fun c o c1 c2 c3 e => Heap.get?_push_of_some _ (hk c o c1 c2 c3 e)
theorem zh_next_end {Q : Fin → Shared → Prop} (S : ZipSep2 z TI TO i1 i2 fp1 fp2) (D1 : Draws prog w A i1 fp1 n1 P1 St1)
    (hz : IsZipHeld s.heap z TI TO T f) (hT : s.heap.get? T = some oT) (hTI : IsTupOf2 s.heap TI (.ref i1) (.ref i2)) (st1 : St1 n1 s.heap)
    (hE : ∀ h' e, (∀ c o, c ≠ z → c ≠ i1 → c ≠ i2 → s.heap.get? c = some o → h'.get? c = some o) → (∃ o, h'.get? e = some o ∧ o.cls = .type "StopIteration") → E (.ref e) { s with heap := h' }) :
    wpAny (model prog w) A (Builtin.«zip.__next__» ⟨[.ref z], []⟩) Q E s := by
  show wpAny _ _ (field (.ref z) 2 >>= _) _ _ _
  refine wpAny_bind (wpAny_field hz rfl (x := .bool false) rfl ?_)
  show wpAny _ _ (field (.ref z) 3 >>= _) _ _ _
  refine wpAny_bind (wpAny_field hz rfl (x := .ref TI) rfl ?_)
  refine wpAny_bind (wpAny_seqItems hTI rfl ?_)
  show wpAny _ _ (Builtin.SmallTypes.ownedTupleIsFree (.ref z) >>= _) _ _ _
  refine wpAny_bind (wpAny_tupleHeld_zip hz hT fun h₁ hz₁ hs₁ => ?_)
  simp only [Bool.false_eq_true, if_false]
  refine wpAny_bind ?_
  rw [← Array.forIn_toList]
  simp only [List.forIn_cons, List.forIn_nil]
  refine wpAny_bind (wpAny_bind (wpAny_holding ?_))
  show wpAny _ _ (Builtin.SmallTypes.nextOf (.ref i1) >>= _) _ _ _
  refine wpAny_bind (D1.done { s with heap := h₁ } _ _ (D1.over st1 hs₁ S.zf1) fun h₂ e hs₂ he => ?_)
  exact hE h₂ e (fun c o c1 c2 _ x => hs₂ _ _ c2 (hs₁.extBut _ _ c1 x)) he
theorem zh_pyNext_item {Q : Option Value → Shared → Prop} (S : ZipSep2 z TI TO i1 i2 fp1 fp2) (D1 : Draws prog w A.in1 i1 fp1 n1 P1 St1) (D2 : Draws prog w A.in1 i2 fp2 n2 P2 St2)
    (hz : IsZipHeld s.heap z TI TO T f) (hT : s.heap.get? T = some oT) (hTI : IsTupOf2 s.heap TI (.ref i1) (.ref i2)) (st1 : St1 i s.heap) (st2 : St2 i s.heap) (hlt1 : i < n1) (hlt2 : i < n2)
    (hQ : ∀ x1 x2 h' tk, P1 i x1 → P2 i x2 → IsZipHeld h' z TI TO T true → St1 (i + 1) h' → St2 (i + 1) h' → IsTupOf2 h' s.heap.objs.size x1 x2 → h'.objs.size = s.heap.objs.size + 1 →
      (∀ c o, c ≠ z → c ≠ i1 → c ≠ i2 → s.heap.get? c = some o → h'.get? c = some o) → Q (some (.ref s.heap.objs.size)) { s with heap := h', toks := tk }) :
    wpAny (model prog w) A (pyNext (.ref z)) Q E s := by
  have hTy : s.TypeIs (.ref z) "zip" := ⟨_, hz, rfl⟩
  unfold pyNext
  exact wpAny_bind (wpAny_attempt (wpAny_callSpecial?_slot (name := Str.ofString "__next__") hTy F.slot_zip_next
    (wpAny_call_entry F.slot_zip_next hTy F.entry_zip_next
      (zh_next_item S D1 D2 hz hT hTI st1 st2 hlt1 hlt2 fun x1 x2 h' tk y1 y2 a1 a2 a3 a4 a5 a6 => wpAny_pure (hQ x1 x2 h' tk y1 y2 a1 a2 a3 a4 a5 a6)) (F.args_zip_next_1 _))))
theorem zh_pyNext_end {Q : Option Value → Shared → Prop} (S : ZipSep2 z TI TO i1 i2 fp1 fp2) (D1 : Draws prog w A.in1 i1 fp1 n1 P1 St1)
    (hz : IsZipHeld s.heap z TI TO T f) (hT : s.heap.get? T = some oT) (hTI : IsTupOf2 s.heap TI (.ref i1) (.ref i2)) (st1 : St1 n1 s.heap)
    (hQ : ∀ h', (∀ c o, c ≠ z → c ≠ i1 → c ≠ i2 → s.heap.get? c = some o → h'.get? c = some o) → Q none { s with heap := h' }) : wpAny (model prog w) A (pyNext (.ref z)) Q E s := by
  have hTy : s.TypeIs (.ref z) "zip" := ⟨_, hz, rfl⟩
  unfold pyNext
  refine wpAny_bind (wpAny_attempt (wpAny_callSpecial?_slot (name := Str.ofString "__next__") hTy F.slot_zip_next
    (wpAny_call_entry F.slot_zip_next hTy F.entry_zip_next (zh_next_end S D1 hz hT hTI st1 fun h' e hk he => ?_) (F.args_zip_next_1 _))))
  obtain ⟨o, ho, hc⟩ := he
  refine wpAny_bind (wpAny_isInstance (T := "StopIteration") (b := true) ⟨o, ho, hc⟩ isSubtype_stop ?_)
  exact wpAny_pure (hQ _ hk)
end
end PySem

set_option Elab.async false
set_option linter.all false
set_option maxRecDepth 100000
set_option maxHeartbeats 400000
/-! ### list(zip(a, b)) of two lists of one length -/
namespace Sl
open PySem PySem.Spec PyProof.Rows L2
theorem zip_no_len : typeLookup (.type "zip") "__len__" = pure none := by rw [typeLookup_type, builtinLookup_eq_fast]; kernel_rfl
theorem zip_no_hint : typeLookup (.type "zip") "__length_hint__" = pure none := by rw [typeLookup_type, builtinLookup_eq_fast]; kernel_rfl
structure ZSt (h : Heap) (z TI TO i1 i2 l1 l2 S : Addr) (xs ys : Array Value) (i : Nat) : Prop where
  ti : IsPair h TI (.ref i1) (.ref i2)
  h1 : h.IsListIter i1 l1 i
  h2 : h.IsListIter i2 l2 i
  hl1 : h.IsList l1 xs
  hl2 : h.IsList l2 ys
  out : (IsZip h z TI TO .none ∧ ∃ a b, IsPair h TO a b) ∨ ∃ T f oT, IsZipHeld h z TI TO T f ∧ h.get? T = some oT ∧ T ≠ z ∧ T ≠ i1 ∧ T ≠ i2 ∧ T ≠ S
theorem ZSt.keep {h h' : Heap} {z TI TO i1 i2 l1 l2 S : Addr} {xs ys : Array Value} {i : Nat} (x : ZSt h z TI TO i1 i2 l1 l2 S xs ys i) (hk : ∀ b o, b ≠ S → h.get? b = some o → h'.get? b = some o)
    (n : ∀ b ∈ [z, TI, TO, i1, i2, l1, l2], b ≠ S) : ZSt h' z TI TO i1 i2 l1 l2 S xs ys i := by
  refine ⟨hk _ _ (n _ (by simp)) x.ti, x.h1.at fun o e => hk _ o (n _ (by simp)) e, x.h2.at fun o e => hk _ o (n _ (by simp)) e, x.hl1.at fun o e => hk _ o (n _ (by simp)) e, x.hl2.at fun o e => hk _ o (n _ (by simp)) e, ?_⟩
  rcases x.out with ⟨hz, a, b, hTO⟩ | ⟨T, f, oT, hz, hT, r1, r2, r3, r4⟩
  · exact .inl ⟨hk _ _ (n _ (by simp)) hz, a, b, hk _ _ (n _ (by simp)) hTO⟩
  · exact .inr ⟨T, f, oT, hk _ _ (n _ (by simp)) hz, hk _ _ r4 hT, r1, r2, r3, r4⟩
section
variable {prog : Program} {w : World} {A : Around} {E : Value → Shared → Prop} {s : Shared} {z TI TO i1 i2 l1 l2 S : Addr} {xs ys : Array Value}
theorem zl_item {i : Nat} {x y : Value} {Q : Option Value → Shared → Prop} (D : ZipApart z TI TO i1 i2 l1 l2) (st : ZSt s.heap z TI TO i1 i2 l1 l2 S xs ys i) (hS : S < s.heap.objs.size) (ex : xs[i]? = some x) (ey : ys[i]? = some y)
    (hQ : ∀ h', ZSt h' z TI TO i1 i2 l1 l2 S xs ys (i + 1) → IsPair h' s.heap.objs.size x y → (∀ c o, c ∉ [z, TO, i1, i2] → s.heap.get? c = some o → h'.get? c = some o) → Q (some (.ref s.heap.objs.size)) { s with heap := h' }) :
    wpAny (model prog w) A (pyNext (.ref z)) Q E s := by
  obtain ⟨hTI, h1, h2, hl1, hl2, hz⟩ := st
  have lt : ∀ {c o}, s.heap.get? c = some o → s.heap.objs.size ≠ c := fun e => Nat.ne_of_gt (Heap.lt_size e)
  have n1 : s.heap.objs.size ≠ i1 := let ⟨_, e, _⟩ := h1; lt e
  have n2 : s.heap.objs.size ≠ i2 := let ⟨_, e, _⟩ := h2; lt e
  rcases hz with ⟨hz, a, b, hTO⟩ | ⟨T, f, oT, hz, hT, r1, r2, r3, r4⟩
  · refine wpAny_pyNext_zip_item D hz hTI hTO h1 h2 hl1 hl2 ex ey fun h' a1 a2 a3 a4 a5 a6 hk => ?_
    exact hQ h' ⟨hk _ _ D.TIz D.TITO D.TIi1 D.TIi2 hTI, a3, a4, hl1.at fun o e => hk _ o D.l1z D.l1TO D.l1i1 D.l1i2 e, hl2.at fun o e => hk _ o D.l2z D.l2TO D.l2i1 D.l2i2 e,
      .inr ⟨s.heap.objs.size, false, _, a1, a5, lt hz, n1, n2, Nat.ne_of_gt hS⟩⟩ a5 fun c o hc e => hk c o (fun x => hc (by simp [x])) (fun x => hc (by simp [x])) (fun x => hc (by simp [x])) (fun x => hc (by simp [x])) e
  · refine wpAny_pyNext_zip_item_held D hz hT hTI h1 h2 hl1 hl2 ex ey fun h' a1 a3 a4 a5 a6 hk => ?_
    exact hQ h' ⟨hk _ _ D.TIz D.TIi1 D.TIi2 hTI, a3, a4, hl1.at fun o e => hk _ o D.l1z D.l1i1 D.l1i2 e, hl2.at fun o e => hk _ o D.l2z D.l2i1 D.l2i2 e,
      .inr ⟨T, true, oT, a1, hk _ _ r1 r2 r3 hT, r1, r2, r3, r4⟩⟩ a5 fun c o hc e => hk c o (fun x => hc (by simp [x])) (fun x => hc (by simp [x])) (fun x => hc (by simp [x])) e
theorem zl_done {i : Nat} {Q : Option Value → Shared → Prop} (hh : A.handled = none) (D : ZipApart z TI TO i1 i2 l1 l2) (st : ZSt s.heap z TI TO i1 i2 l1 l2 S xs ys i) (hend : xs[i]? = none)
    (hQ : ∀ h', (∀ c o, c ∉ [z, TO, i1, i2] → s.heap.get? c = some o → h'.get? c = some o) → Q none { s with heap := h' }) : wpAny (model prog w) A (pyNext (.ref z)) Q E s := by
  obtain ⟨hTI, h1, h2, hl1, hl2, hz⟩ := st
  rcases hz with ⟨hz, a, b, hTO⟩ | ⟨T, f, oT, hz, hT, r1, r2, r3, r4⟩
  · exact wpAny_pyNext_zip_end hh D hz hTI hTO h1 h2 hl1 hl2 (.inl hend) fun h' hk => hQ h' fun c o hc e => hk c o (fun x => hc (by simp [x])) (fun x => hc (by simp [x])) (fun x => hc (by simp [x])) (fun x => hc (by simp [x])) e
  · exact wpAny_pyNext_zip_end_held hh D hz hT hTI h1 h2 hl1 hl2 (.inl hend) fun h' hk => hQ h' fun c o hc e => hk c o (fun x => hc (by simp [x])) (fun x => hc (by simp [x])) (fun x => hc (by simp [x])) e
end
structure ZG (xs ys : Array Value) (lo : Addr) (h : Heap) (as : List Addr) : Prop where
  rise : as.Pairwise (· < ·)
  above : ∀ a ∈ as, lo < a
  pairs : ∀ (j : Nat) (a : Addr), as[j]? = some a → ∃ x y, xs[j]? = some x ∧ ys[j]? = some y ∧ IsPair h a x y
theorem ZG.there {xs ys : Array Value} {lo : Addr} {h : Heap} {as : List Addr} (g : ZG xs ys lo h as) {a : Addr} (ha : a ∈ as) : a < h.objs.size := by
  obtain ⟨j, hj⟩ := List.mem_iff_getElem?.mp ha
  obtain ⟨_, _, _, _, e⟩ := g.pairs j a hj
  exact Heap.lt_size e
section
variable {prog : Program} {w : World} {A : Around} {s : Shared} {R : Result → Shared → Prop} {z TI TO i1 i2 l1 l2 S : Addr} {xs ys : Array Value}
theorem zl_loop (hh : A.handled = none) (D : ZipApart z TI TO i1 i2 l1 l2) (lo : ∀ b ∈ [z, TI, TO, i1, i2, l1, l2], b < S) (hl : xs.size = ys.size) (hn : xs.size ≤ sizeLine) (res : Value) {h₁ : Heap}
    (hR : ∀ h' tk acc c as, (∀ b o, b ≠ S → b ∉ [z, TO, i1, i2] → h₁.get? b = some o → h'.get? b = some o) → h'.get? S = some { cls := .type "list", dict := none, data := .seq acc c, slots := #[] } → as.length = xs.size → ZG xs ys S h' as →
      acc.toList = as.map Value.ref → R (.ok (.ret res)) { s with heap := h', toks := tk }) :
    ∀ (k i : Nat) (h : Heap) (tk c : Nat) (acc : Array Value) (as : List Addr), xs.size - i = k → i ≤ xs.size → ZSt h z TI TO i1 i2 l1 l2 S xs ys i → (∀ b o, b ≠ S → b ∉ [z, TO, i1, i2] → h₁.get? b = some o → h.get? b = some o) →
      h.get? S = some { cls := .type "list", dict := none, data := .seq acc c, slots := #[] } → acc.toList = as.map Value.ref → as.length = i → ZG xs ys S h as →
      codeAny (model prog w) A (.builtin "list.extend.loop" ⟨[.ref S, .ref z, res], []⟩) R { s with heap := h, toks := tk } := by
  have wl : ∀ b ∈ [z, TO, i1, i2], b < S := fun b hb => lo b (by simp at hb ⊢; rcases hb with rfl | rfl | rfl | rfl <;> simp)
  have hSw : S ∉ [z, TO, i1, i2] := fun hm => Nat.lt_irrefl _ (wl _ hm)
  have up0 : ∀ {a : Addr}, S < a → a ∉ [z, TO, i1, i2] := fun h hm => Nat.lt_asymm h (wl _ hm)
  intro k
  induction k with
  | zero =>
    intro i h tk c acc as hk hi hst hkeep hS hacc hal hG
    have hin : i = xs.size := by omega
    refine codeAny_builtin PySem.F.entry_extend_loop ?_
    rw [Around.under_plainId PySem.F.plain_extend_loop _]
    show wpAny _ A.in1 (pyNext (.ref z) >>= _) _ _ _
    refine wpAny_bind (zl_done (s := { s with heap := h, toks := tk }) (A := A.in1) hh D hst (Array.getElem?_eq_none (by omega)) fun h' he => ?_)
    refine wpAny_pure (hR h' tk acc c as (fun b o h1 h2 e => he b o h2 (hkeep b o h1 h2 e)) (he S _ hSw hS) (by omega) ⟨hG.rise, hG.above, fun j a hj => ?_⟩ hacc)
    obtain ⟨x, y, e1, e2, e3⟩ := hG.pairs j a hj
    exact ⟨x, y, e1, e2, he a _ (up0 (hG.above a (List.mem_of_getElem? hj))) e3⟩
  | succ k ih =>
    intro i h tk c acc as hk hi hst hkeep hS hacc hal hG
    have hlt : i < xs.size := by omega
    have ex := Array.getElem?_eq_getElem hlt
    have ey := Array.getElem?_eq_getElem (show i < ys.size by omega)
    have hsz : acc.size = i := by rw [← Array.length_toList, hacc, List.length_map, hal]
    refine codeAny_builtin PySem.F.entry_extend_loop ?_
    rw [Around.under_plainId PySem.F.plain_extend_loop _]
    show wpAny _ A.in1 (pyNext (.ref z) >>= _) _ _ _
    refine wpAny_bind (zl_item (s := { s with heap := h, toks := tk }) (S := S) D hst (Heap.lt_size hS) ex ey fun h' hst' ht hkp => ?_)
    dsimp only at ht hkp ⊢
    have hS' := hkp S _ hSw hS
    have up : ∀ b o, b ≠ S → h'.get? b = some o → (h'.update S (Obj.mapSeq (·.push (Value.ref h.objs.size)))).get? b = some o := fun b o hb e => (Heap.get?_update_other _ _ (Ne.symm hb)).trans e
    have hSl : S < h.objs.size := Heap.lt_size hS
    show wpAny _ A.in1 (updateSeq S (·.push (Value.ref h.objs.size)) >>= _) _ _ _
    refine wpAny_bind ?_
    refine wpAny_updateSeq hS' rfl (wpAny_pure ⟨plainId_quiet PySem.F.plain_extend_loop _, ih (i + 1) _ tk _ (acc.push (Value.ref h.objs.size)) (as ++ [h.objs.size]) (by omega) hlt (hst'.keep up fun b hb => Nat.ne_of_lt (lo b hb))
      (fun b o h1 h2 e => up b o h1 (hkp b o h2 (hkeep b o h1 h2 e))) (Heap.get?_update_self _ hS' rfl) (by rw [Array.toList_push, hacc, List.map_append]; rfl) (by rw [List.length_append, hal]; rfl) ⟨?_, ?_, ?_⟩⟩) (by rw [hsz]; omega) (by show (acc.push (Value.ref h.objs.size)).size ≤ sizeLine + 1; rw [Array.size_push, hsz]; omega)
    · refine List.pairwise_append.mpr ⟨hG.rise, List.pairwise_singleton _ _, fun a ha b hb => ?_⟩
      rw [List.mem_singleton.mp hb]
      exact hG.there ha
    · intro a ha
      rcases List.mem_append.mp ha with ha | ha
      · exact hG.above a ha
      · rw [List.mem_singleton.mp ha]; exact hSl
    · intro j b hj
      rcases Nat.lt_trichotomy j as.length with h1 | h1 | h1
      · rw [List.getElem?_append_left h1] at hj
        obtain ⟨x', y', e1, e2, e3⟩ := hG.pairs j b hj
        have hb := hG.above b (List.mem_of_getElem? hj)
        exact ⟨x', y', e1, e2, up b _ (Nat.ne_of_gt hb) (hkp b _ (up0 hb) e3)⟩
      · subst h1
        have hb : h.objs.size = b := by simpa using hj
        subst hb
        exact ⟨_, _, by rw [hal]; exact ex, by rw [hal]; exact ey, up _ _ (Nat.ne_of_gt hSl) ht⟩
      · have hnone : (as ++ [h.objs.size])[j]? = none := List.getElem?_eq_none (by rw [List.length_append, List.length_singleton]; omega)
        rw [hnone] at hj; cases hj
theorem zl_extend (hh : A.handled = none) (D : ZipApart z TI TO i1 i2 l1 l2) (st : ZSt s.heap z TI TO i1 i2 l1 l2 S xs ys 0) (hz : IsZip s.heap z TI TO .none) (lo : ∀ b ∈ [z, TI, TO, i1, i2, l1, l2], b < S) (hl : xs.size = ys.size) (hn : xs.size ≤ sizeLine) (res : Value) (c₀ : Nat) (hS : s.heap.get? S = some { cls := .type "list", data := .seq #[] c₀ })
    (hR : ∀ h' tk acc c as, (∀ b o, b ≠ S → b ∉ [z, TO, i1, i2] → s.heap.get? b = some o → h'.get? b = some o) → h'.get? S = some { cls := .type "list", dict := none, data := .seq acc c, slots := #[] } → as.length = xs.size → ZG xs ys S h' as →
      acc.toList = as.map Value.ref → R (.ok (.ret res)) { s with heap := h', toks := tk }) :
    wpAny (model prog w) A.in1 (Builtin.List.listExtendWith (.ref S) (.ref z) res)
      (fun fin s' => match fin with | .done f => R (.ok f) s' | .again c' => c'.quiet = true ∧ codeAny (model prog w) A c' R s') (fun e s' => R (.error e) s') s := by
  have hSz : S ≠ z := Nat.ne_of_gt (lo z (by simp))
  have hT : s.TypeIs (.ref z) "zip" := ⟨_, hz, rfl⟩
  unfold Builtin.List.listExtendWith
  refine wpAny_bind (wpAny_typeOf hT ?_)
  have h1 : Builtin.List.listSameRef (.ref S) (.ref z) = false := by simp [Builtin.List.listSameRef, hSz]
  have h2 : (Value.type "zip" == Value.type "list") = false := by decide
  have h3 : (Value.type "zip" == Value.type "tuple") = false := by decide
  simp only [h1, h2, h3, Bool.or_false, Bool.false_eq_true, if_false]
  refine wpAny_bind (wpAny_pyIter_zip hz ?_)
  refine wpAny_bind (wpAny_holding ?_)
  unfold Builtin.List.listLengthHint
  refine wpAny_bind (wpAny_specialOf hT zip_no_len ?_)
  show wpAny _ A.in1 (specialOf (Value.ref z) (Str.ofString "__length_hint__") >>= _) _ _ _
  refine wpAny_bind (wpAny_specialOf hT zip_no_hint ?_)
  refine wpAny_pure ?_
  show wpAny _ A.in1 (rule "list.extend.makes-room" >>= fun _ => Builtin.List.listTouch (.ref S) >>= fun _ =>
    again (.builtin "list.extend.loop" ⟨[.ref S, .ref z, res], []⟩)) _ _ _
  refine wpAny_bind (wpAny_rule ?_)
  refine wpAny_bind ?_
  show wpAny _ A.in1 (updateSeq S (·.push .none) >>= fun _ => updateSeq S (·.pop)) _ _ _
  refine wpAny_bind (wpAny_updateSeq hS rfl ?_)
  have hS₂ := Heap.get?_update_self (Obj.mapSeq (·.push Value.none)) hS rfl
  refine wpAny_updateSeq (hz := by seq_fits) hS₂ rfl ?_
  have hS₃ := Heap.get?_update_self (Obj.mapSeq (·.pop)) hS₂ rfl
  have oth : ∀ b o, b ≠ S → s.heap.get? b = some o → ((s.heap.update S (Obj.mapSeq (·.push Value.none))).update S (Obj.mapSeq (·.pop))).get? b = some o :=
    fun b o hb e => (Heap.get?_update_other _ _ (Ne.symm hb)).trans ((Heap.get?_update_other _ _ (Ne.symm hb)).trans e)
  refine wpAny_pure ⟨plainId_quiet PySem.F.plain_extend_loop _, ?_⟩
  refine zl_loop (s := s) (h₁ := s.heap) hh D lo hl hn res hR xs.size 0 _ _ _ #[] [] (Nat.sub_zero _) (Nat.zero_le _) (st.keep oth fun b hb => Nat.ne_of_lt (lo b hb)) (fun b o hb _ e => oth b o hb e) hS₃ rfl rfl ⟨List.Pairwise.nil, (fun _ ha => nomatch ha), (fun j a hj => by simp at hj)⟩
theorem zl_init (hh : A.handled = none) (D : ZipApart z TI TO i1 i2 l1 l2) (st : ZSt s.heap z TI TO i1 i2 l1 l2 S xs ys 0) (hz : IsZip s.heap z TI TO .none) (lo : ∀ b ∈ [z, TI, TO, i1, i2, l1, l2], b < S) (hl : xs.size = ys.size) (hn : xs.size ≤ sizeLine) (hS : s.heap.get? S = some { cls := .type "list", data := .seq #[] })
    (hR : ∀ h' tk acc c as, (∀ b o, b ≠ S → b ∉ [z, TO, i1, i2] → s.heap.get? b = some o → h'.get? b = some o) → h'.get? S = some { cls := .type "list", dict := none, data := .seq acc c, slots := #[] } → as.length = xs.size → ZG xs ys S h' as →
      acc.toList = as.map Value.ref → R (.ok (.ret .none)) { s with heap := h', toks := tk }) :
    wpAny (model prog w) A.in1 (Builtin.«list.__init__» ⟨[.ref S, .ref z], []⟩)
      (fun fin s' => match fin with | .done f => R (.ok f) s' | .again c' => c'.quiet = true ∧ codeAny (model prog w) A c' R s') (fun e s' => R (.error e) s') s := by
  show wpAny _ _ (do let old ← Builtin.List.listItems (.ref S); Builtin.List.listUpdate (.ref S) (fun _ => #[]); letGo old.toList.reverse; Builtin.List.listExtendWith (.ref S) (.ref z) .none) _ _ s
  refine wpAny_bind ?_
  unfold Builtin.List.listItems
  refine wpAny_bind (wpAny_seqItems hS rfl (wpAny_pure ?_))
  show wpAny _ _ (updateSeq S (fun _ => #[]) >>= fun _ => letGo (#[] : Array Value).toList.reverse >>= fun _ => Builtin.List.listExtendWith (.ref S) (.ref z) .none) _ _ s
  refine wpAny_bind (wpAny_updateSeq hS rfl ?_)
  have hS₂ := Heap.get?_update_self (Obj.mapSeq (fun _ => (#[] : Array Value))) hS rfl
  have oth : ∀ b o, b ≠ S → s.heap.get? b = some o → (s.heap.update S (Obj.mapSeq (fun _ => (#[] : Array Value)))).get? b = some o :=
    fun b o hb e => (Heap.get?_update_other _ _ (Ne.symm hb)).trans e
  refine wpAny_bind (wpAny_letGo ?_)
  refine zl_extend hh D (st.keep oth fun b hb => Nat.ne_of_lt (lo b hb)) (oth _ _ (Nat.ne_of_lt (lo z (by simp))) hz) lo hl hn .none _ hS₂ fun h' tk acc c as hk hS' hal hG hacc => ?_
  exact hR h' tk acc c as (fun b o hb hw e => hk b o hb hw (oth b o hb e)) hS' hal hG hacc
theorem zl_call {Q : Value → Shared → Prop} {E : Value → Shared → Prop} (hh : A.handled = none) (D : ZipApart z TI TO i1 i2 l1 l2) (st : ∀ S, s.heap.get? S = none → ZSt s.heap z TI TO i1 i2 l1 l2 S xs ys 0) (hz : IsZip s.heap z TI TO .none) (lo : ∀ b ∈ [z, TI, TO, i1, i2, l1, l2], b < s.heap.objs.size) (hl : xs.size = ys.size) (hn : xs.size ≤ sizeLine)
    (hQ : ∀ h' tk acc c as, (∀ b o, b ∉ [z, TO, i1, i2] → s.heap.get? b = some o → h'.get? b = some o) → h'.get? s.heap.objs.size = some { cls := .type "list", dict := none, data := .seq acc c, slots := #[] } → as.length = xs.size → ZG xs ys s.heap.objs.size h' as →
      acc.toList = as.map Value.ref → Q (.ref s.heap.objs.size) { s with heap := h', toks := tk }) :
    wpAny (model prog w) A (call (.type "list") [.ref z]) Q E s := by
  refine callType_codes (Q₁ := fun obj s₁ => obj = .ref s.heap.objs.size ∧ s₁ = { s with heap := s.heap.push { cls := .type "list", data := .seq #[] } }) PySem.F.called_list (PySem.F.typeCall_list_1 _) PySem.F.entry_list_init
    (code_list_new _ ⟨rfl, rfl⟩) fun obj s₁ h₁ => ?_
  obtain ⟨rfl, rfl⟩ := h₁
  have hS : (s.heap.push { cls := .type "list", data := .seq #[] }).get? s.heap.objs.size = some { cls := .type "list", data := .seq #[] } := Heap.get?_push_size _ rfl
  have up : ∀ b o, s.heap.get? b = some o → (s.heap.push { cls := .type "list", data := .seq #[] }).get? b = some o := fun b o e => Heap.get?_push_of_some _ e
  have no : s.heap.get? s.heap.objs.size = none := by
    cases e : s.heap.get? s.heap.objs.size with
    | none => rfl
    | some o => exact absurd (Heap.lt_size e) (Nat.lt_irrefl _)
  refine ⟨⟨_, hS, rfl⟩, PySem.F.args_list_init_2 _ _, zl_init (A := A.in1) hh D ((st _ no).keep (fun b o _ e => up b o e) fun b hb => Nat.ne_of_lt (lo b hb)) (up _ _ hz) lo hl hn hS fun h' tk acc c as hk hS' hal hG hacc => ?_⟩
  exact ⟨rfl, hQ h' tk acc c as (fun b o hw e => hk b o (Nat.ne_of_lt (Heap.lt_size e)) hw (up _ _ e)) hS' hal hG hacc⟩
end
end Sl

set_option Elab.async false
set_option linter.all false
set_option maxRecDepth 100000
set_option maxHeartbeats 400000
namespace Sl
open PySem PySem.Spec PyProof.Rows L2
/-- the pairs tracked at their addresses -/
def putP : Hp → List Addr → List (V × V) → Hp
  | H, a :: as, p :: ps => putP (upd H a (.tup [p.1, p.2])) as ps
  | H, _, _ => H
theorem putP_off {b : Addr} : ∀ (as : List Addr) (ps : List (V × V)) (H : Hp), b ∉ as → putP H as ps b = H b
  | [], _, _, _ => rfl
  | _ :: _, [], _, _ => rfl
  | a :: as, p :: ps, H, h => by
    show putP (upd H a (.tup [p.1, p.2])) as ps b = H b
    rw [putP_off as ps _ (fun z => h (List.mem_cons_of_mem _ z)), upd_ne (fun z => h (by rw [z]; exact List.mem_cons_self))]
theorem putP_at : ∀ (as : List Addr) (ps : List (V × V)) (H : Hp), as.length = ps.length → as.Nodup → ∀ (j : Nat) (t : Addr) (p : V × V), as[j]? = some t → ps[j]? = some p → putP H as ps t = some (.tup [p.1, p.2])
  | [], _, _, _, _, j, t, p, e, _ => by simp at e
  | _ :: _, [], _, h, _, _, _, _, _, _ => by cases h
  | a :: as, q :: ps, H, h, hn, 0, t, p, e, e' => by
    cases e
    cases e'
    have hn' := List.nodup_cons.mp hn
    show putP (upd H a (.tup [q.1, q.2])) as ps a = some (.tup [q.1, q.2])
    rw [putP_off as ps _ hn'.1, upd_same]
  | a :: as, q :: ps, H, h, hn, j + 1, t, p, e, e' => putP_at as ps (upd H a (.tup [q.1, q.2])) (Nat.succ.inj h) (List.nodup_cons.mp hn).2 j t p e e'
def ZipTo (H H' : Hp) (p : Addr) (ts : List Addr) (xs ys : List V) : Prop :=
  (∀ b o, H b = some o → H' b = some o) ∧ H p = none ∧ (∀ t ∈ ts, H t = none) ∧ p ∉ ts ∧ H' p = some (.lst (ts.map V.ref)) ∧ ts.length = xs.length ∧
    ∀ (j : Nat) (t : Addr) (x y : V), ts[j]? = some t → xs[j]? = some x → ys[j]? = some y → H' t = some (.tup [x, y])
def tListZip (K : PySem.W.Frag) (ta : TA) : TE := fun σ H Q => ta σ H fun vs H1 => ∃ a b xs ys, vs = [.ref a, .ref b] ∧ SqL K H1 a xs ∧ SqL K H1 b ys ∧ xs.length = ys.length ∧
  ∀ H' p ts, ZipTo H1 H' p ts xs ys → Q (.ref p) H'
theorem offZ {n b : Addr} (h : b < n) (hm : b ∈ [n + 4, n + 3, n, n + 1]) : False := by
  simp only [List.mem_cons, List.not_mem_nil, or_false] at hm
  rcases hm with rfl | rfl | rfl | rfl
  · exact Nat.lt_irrefl _ (Nat.lt_of_le_of_lt (Nat.le_add_right n 4) h)
  · exact Nat.lt_irrefl _ (Nat.lt_of_le_of_lt (Nat.le_add_right n 3) h)
  · exact Nat.lt_irrefl _ h
  · exact Nat.lt_irrefl _ (Nat.lt_of_le_of_lt (Nat.le_add_right n 1) h)
section
variable {X : Cx} {e e2 : Expr} {ta : TA} {p p2 cpos pos : Pos}
theorem zip_laid {pins : List (Addr × Obj)} {σ : L2.St} {H : Hp} {s : Shared} {h' : Heap} {tk : Nat} {xs ys : List V} {us vs : List Value} {acc : Array Value} {c : Nat} {as : List Addr} {S : Addr} (I : Inv X pins σ H s) (rx : Vals xs us) (ry : Vals ys vs) (he : xs.length = ys.length) (hz : xs.length ≤ sizeLine)
    (hS0 : s.heap.objs.size ≤ S) (hk : ∀ b o, s.heap.get? b = some o → h'.get? b = some o) (hS : h'.get? S = some { cls := .type "list", dict := none, data := .seq acc c, slots := #[] }) (hl : as.length = us.toArray.size) (hG : ZG us.toArray vs.toArray S h' as) (hacc : acc.toList = as.map Value.ref) :
    ∃ H' : Hp, ZipTo H H' S as xs ys ∧ Inv X pins σ H' { s with heap := h', toks := tk } := by
  have lx := rx.length
  have ly := ry.length
  have hla : as.length = xs.length := by rw [hl, List.size_toArray]; omega
  have lz : (xs.zip ys).length = as.length := by rw [List.length_zip]; omega
  have hSn : S ∉ as := fun z => Nat.lt_irrefl _ (hG.above _ z)
  have nd : as.Nodup := List.Pairwise.imp (fun {a b} (h : a < b) => Nat.ne_of_lt h) hG.rise
  have new : ∀ t ∈ as, H t = none := fun t ht => I.hok.fresh (Nat.le_trans hS0 (Nat.le_of_lt (hG.above t ht)))
  have newS : H S = none := I.hok.fresh hS0
  have atP := putP_at as (xs.zip ys) (upd H S (.lst (as.map V.ref))) lz.symm nd
  have off : ∀ b, b ∉ as → b ≠ S → putP (upd H S (.lst (as.map V.ref))) as (xs.zip ys) b = H b := fun b h1 h2 => by rw [putP_off as _ _ h1, upd_ne h2]
  have low : ∀ b o, s.heap.get? b = some o → b ∉ as ∧ b ≠ S := fun b o e => by
    have hb : b < S := Nat.lt_of_lt_of_le (Heap.lt_size e) hS0
    exact ⟨fun z => absurd (hG.above b z) (Nat.lt_asymm hb), Nat.ne_of_lt hb⟩
  have kp : ∀ b u, H b = some u → (putP (upd H S (.lst (as.map V.ref))) as (xs.zip ys)) b = some u := fun b u e => by
    rw [off b (fun z => by rw [new b z] at e; cases e) (fun z => by rw [z, newS] at e; cases e)]
    exact e
  have eS : putP (upd H S (.lst (as.map V.ref))) as (xs.zip ys) S = some (.lst (as.map V.ref)) := by rw [putP_off as _ _ hSn, upd_same]
  have atZ : ∀ (j : Nat) (t : Addr) (x y : V), as[j]? = some t → xs[j]? = some x → ys[j]? = some y → putP (upd H S (.lst (as.map V.ref))) as (xs.zip ys) t = some (.tup [x, y]) := fun j t x y e1 e2 e3 =>
    atP j t (x, y) e1 (by rw [List.getElem?_zip_eq_some]; exact ⟨e2, e3⟩)
  refine ⟨putP (upd H S (.lst (as.map V.ref))) as (xs.zip ys), ⟨kp, newS, new, hSn, eS, hla, atZ⟩, ?_⟩
  refine I.call' (ch := []) rfl ⟨fun b o q _ _ _ => hk b o q, fun b o q _ _ _ => ⟨o.slots, hk b o q⟩, fun b o q n _ => ?_, fun b o q _ => ⟨o, hk b o q⟩, fun b xs q => kp b _ q, fun b o u q => kp b _ q, fun b ps q => ⟨#[], by rw [kp b _ q]; simp⟩⟩ (fun b u q => ?_) I.bare fun b z => by simp at z
  · obtain ⟨z1, z2⟩ := low b o q
    rw [off b z1 z2]
    exact n
  · by_cases hb : b ∈ as
    · obtain ⟨j, hj⟩ := List.mem_iff_getElem?.mp hb
      have hjl : j < as.length := (List.getElem?_eq_some_iff.mp hj).1
      have ex := List.getElem?_eq_getElem (l := xs) (i := j) (by omega)
      have ey := List.getElem?_eq_getElem (l := ys) (i := j) (by omega)
      rw [atZ j b _ _ hj ex ey] at q
      cases q
      obtain ⟨u, v, f1, f2, f3⟩ := hG.pairs j b hj
      obtain ⟨u', g1, g2⟩ := rx.get ex
      obtain ⟨v', g3, g4⟩ := ry.get ey
      have hu : us[j]? = some u := by simpa using f1
      have hv : vs[j]? = some v := by simpa using f2
      rw [hu] at g1
      rw [hv] at g3
      cases g1
      cases g3
      exact ⟨by show 2 ≤ sizeLine; decide, [u, v], .cons g2 (.cons g4 .nil), ⟨_, f3, rfl, _, rfl⟩⟩
    · by_cases hb2 : b = S
      · rw [hb2] at q ⊢
        rw [eS] at q
        cases q
        refine ⟨by rw [List.length_map]; omega, acc.toList, c, by rw [hacc]; exact LiI.vals_refs as, ?_⟩
        rw [Array.toArray_toList]
        exact hS
      · rw [off b hb hb2] at q
        exact (I.hok b u q).stay (fun d v _ y => hk d v y) (fun d y => kp d _ y) fun d xs y => kp d _ y
/-- list(zip(a, b)) -/
theorem pe_listZip (hc : X.calm = true) (ha : PA X [e, e2] ta) (hg : Gl X "list") (hm : X.mg "list" = none) (hv : bootBuiltins "list" = some (.type "list")) (hgz : Gl X "zip") (hmz : X.mg "zip" = none)
    (hs : starEach [.Call (.Name "zip" p2) [e, e2] [] cpos] X.env = (false, eval (.Call (.Name "zip" p2) [e, e2] [] cpos) X.env) :: starEach [] X.env := by rfl)
    (hs2 : starEach [e, e2] X.env = (false, eval e X.env) :: starEach [e2] X.env := by rfl) (hpl : (backTo cpos (starEach [e2] X.env)).any (·.1) = false := by rfl) :
    PE X (.Call (.Name "list" p) [.Call (.Name "zip" p2) [e, e2] [] cpos] [] pos) (tListZip X.K ta) := by
  refine ⟨fun pins s σ H Q I h => ?_⟩
  refine wpAny_Call_Name_kw (ld_blt I hg hm hv ?_)
  refine PyProof.Rows.callWith_type1 ?_ hs rfl
  rw [hs]
  show wpAny _ _ (spliced ((false, eval (.Call (.Name "zip" p2) [e, e2] [] cpos) X.env) :: backTo pos (starEach [] X.env))) _ _ s
  refine Calls.spliced_cons ?_
  refine Call_ (ld_blt I hgz hmz PyProof.Rows.boot_zip (PyProof.Rows.callWith_type1 (thn (ha.run cpos pins s σ H _ I h) fun us s1 ⟨vs, H1, I1, r1, q1⟩ => ?_) hs2 hpl))
  obtain ⟨a, b, xs, ys, ex, hqx, hqy, hle, q⟩ := q1
  subst ex
  cases r1 with
  | cons r rr =>
    cases rr with
    | cons r' rr =>
      cases rr
      cases r
      cases r'
      obtain ⟨its, rv, pl1, hsz⟩ := I1.list hqx
      obtain ⟨its2, rv2, pl2, _⟩ := I1.list hqy
      have la : a < s1.heap.objs.size := pl1.lt
      have lb : b < s1.heap.objs.size := pl2.lt
      have lx := rv.length
      have ly := rv2.length
      refine call_zip_2 pl1.isList pl2.isList fun h' hz hTI hTO h1 h2 hsz5 hk => ?_
      refine Calls.spliced_nil ?_
      have D := PySem.W.ktu_apart s1.heap.objs.size a b la lb
      refine zl_call (s := { s1 with heap := h' }) (I1.ok.hd hc) D (fun S _ => ⟨hTI, h1, h2, pl1.isList.at fun o e => hk _ o e, pl2.isList.at fun o e => hk _ o e, .inl ⟨hz, _, _, hTO⟩⟩) hz (fun c hcm => ?_) (by rw [List.size_toArray, List.size_toArray]; omega) (by rw [List.size_toArray]; omega) fun h2' tk acc c as hk2 hS hal hG hacc => ?_
      · show c < h'.objs.size
        have la' : (a : Nat) < s1.heap.objs.size := la
        have lb' : (b : Nat) < s1.heap.objs.size := lb
        rw [hsz5]
        simp only [List.mem_cons, List.not_mem_nil, or_false] at hcm
        show (c : Nat) < _
        rcases hcm with rfl | rfl | rfl | rfl | rfl | rfl | rfl <;> first | exact Nat.add_lt_add_left (by decide) _ | exact Nat.lt_add_of_pos_right (by decide) | exact Nat.lt_of_lt_of_le la (Nat.le_add_right _ _) | exact Nat.lt_of_lt_of_le lb (Nat.le_add_right _ _)
      · obtain ⟨H', zt, J⟩ := zip_laid (h' := h2') (tk := tk) I1 rv rv2 hle (by omega) (S := h'.objs.size) (by rw [hsz5]; omega) (fun b o e => hk2 b o (fun hm => offZ (Heap.lt_size e) hm) (hk b o e)) hS hal hG hacc
        exact ⟨.ref _, H', J, rfl, q H' _ as zt⟩
end
end Sl

set_option Elab.async false
set_option linter.all false
set_option maxRecDepth 100000
set_option maxHeartbeats 1000000
/-! ### list(zip(x, y)), x and y tuples or instances whose __iter__ gives a tuple's iterator -/
namespace Sl
open PySem PySem.Spec PyProof.Rows L2
structure ZS2 (h : Heap) (z TI TO i1 i2 S : Addr) (fp1 fp2 : List Addr) (St1 St2 : Nat → Heap → Prop) (i : Nat) : Prop where
  ti : IsTupOf2 h TI (.ref i1) (.ref i2)
  s1 : St1 i h
  s2 : St2 i h
  out : (IsZip h z TI TO .none ∧ ∃ a b, IsTupOf2 h TO a b) ∨ ∃ T f oT, IsZipHeld h z TI TO T f ∧ h.get? T = some oT ∧ T ≠ z ∧ T ≠ i1 ∧ T ≠ i2 ∧ T ≠ S
section
variable {prog : Program} {w : World} {A : Around} {E : Value → Shared → Prop} {s : Shared} {R : Result → Shared → Prop} {z TI TO i1 i2 S : Addr} {fp1 fp2 : List Addr} {St1 St2 : Nat → Heap → Prop} {xs ys : Array Value}
theorem ZS2.keep {h h' : Heap} {i : Nat} (x : ZS2 h z TI TO i1 i2 S fp1 fp2 St1 St2 i) (D1 : Draws prog w A i1 fp1 xs.size (fun i v => xs[i]? = some v) St1) (D2 : Draws prog w A i2 fp2 ys.size (fun i v => ys[i]? = some v) St2)
    (hk : ∀ b o, b ≠ S → h.get? b = some o → h'.get? b = some o) (n : ∀ b ∈ z :: TI :: TO :: (fp1 ++ fp2), b ≠ S) : ZS2 h' z TI TO i1 i2 S fp1 fp2 St1 St2 i := by
  refine ⟨hk _ _ (n _ (by simp)) x.ti, D1.frame _ _ _ x.s1 fun b hb o e => hk b o (n b (by simp [hb])) e, D2.frame _ _ _ x.s2 fun b hb o e => hk b o (n b (by simp [hb])) e, ?_⟩
  rcases x.out with ⟨hz, a, b, hTO⟩ | ⟨T, f, oT, hz, hT, r1, r2, r3, r4⟩
  · exact .inl ⟨hk _ _ (n _ (by simp)) hz, a, b, hk _ _ (n _ (by simp)) hTO⟩
  · exact .inr ⟨T, f, oT, hk _ _ (n _ (by simp)) hz, hk _ _ r4 hT, r1, r2, r3, r4⟩
theorem zs_item {i : Nat} {x y : Value} {Q : Option Value → Shared → Prop} (Z : ZipSep2 z TI TO i1 i2 fp1 fp2) (D1 : Draws prog w A.in1 i1 fp1 xs.size (fun i v => xs[i]? = some v) St1) (D2 : Draws prog w A.in1 i2 fp2 ys.size (fun i v => ys[i]? = some v) St2)
    (st : ZS2 s.heap z TI TO i1 i2 S fp1 fp2 St1 St2 i) (hS : S < s.heap.objs.size) (ex : xs[i]? = some x) (ey : ys[i]? = some y)
    (hQ : ∀ h' tk, ZS2 h' z TI TO i1 i2 S fp1 fp2 St1 St2 (i + 1) → IsPair h' s.heap.objs.size x y → (∀ c o, c ∉ [z, TO, i1, i2] → s.heap.get? c = some o → h'.get? c = some o) → Q (some (.ref s.heap.objs.size)) { s with heap := h', toks := tk }) :
    wpAny (model prog w) A (pyNext (.ref z)) Q E s := by
  obtain ⟨hTI, s1, s2, hz⟩ := st
  have lt : ∀ {c o}, s.heap.get? c = some o → s.heap.objs.size ≠ c := fun e => Nat.ne_of_gt (Heap.lt_size e)
  have n1 : s.heap.objs.size ≠ i1 := let ⟨_, e⟩ := D1.live _ _ s1; lt e
  have n2 : s.heap.objs.size ≠ i2 := let ⟨_, e⟩ := D2.live _ _ s2; lt e
  have b1 : i < xs.size := (Array.getElem?_eq_some_iff.mp ex).1
  have b2 : i < ys.size := (Array.getElem?_eq_some_iff.mp ey).1
  rcases hz with ⟨hz, a, b, hTO⟩ | ⟨T, f, oT, hz, hT, r1, r2, r3, r4⟩
  · refine wpAny_pyNext_zipD2_item Z D1 D2 hz hTI hTO s1 s2 b1 b2 fun x1 x2 h' tk e1 e2 a1 a2 a3 a4 a5 a6 hk => ?_
    rw [ex] at e1
    rw [ey] at e2
    cases e1
    cases e2
    exact hQ h' tk ⟨hk _ _ Z.TIz Z.TITO Z.TIi1 Z.TIi2 hTI, a3, a4, .inr ⟨s.heap.objs.size, false, _, a1, a5, lt hz, n1, n2, Nat.ne_of_gt hS⟩⟩ a5 fun c o hc e => hk c o (fun x => hc (by simp [x])) (fun x => hc (by simp [x])) (fun x => hc (by simp [x])) (fun x => hc (by simp [x])) e
  · refine zh_pyNext_item Z D1 D2 hz hT hTI s1 s2 b1 b2 fun x1 x2 h' tk e1 e2 a1 a3 a4 a5 a6 hk => ?_
    rw [ex] at e1
    rw [ey] at e2
    cases e1
    cases e2
    exact hQ h' tk ⟨hk _ _ Z.TIz Z.TIi1 Z.TIi2 hTI, a3, a4, .inr ⟨T, true, oT, a1, hk _ _ r1 r2 r3 hT, r1, r2, r3, r4⟩⟩ a5 fun c o hc e => hk c o (fun x => hc (by simp [x])) (fun x => hc (by simp [x])) (fun x => hc (by simp [x])) e
theorem zs_done {Q : Option Value → Shared → Prop} (Z : ZipSep2 z TI TO i1 i2 fp1 fp2) (D1 : Draws prog w A.in1 i1 fp1 xs.size (fun i v => xs[i]? = some v) St1) (D2 : Draws prog w A.in1 i2 fp2 ys.size (fun i v => ys[i]? = some v) St2) (hl : xs.size = ys.size)
    (st : ZS2 s.heap z TI TO i1 i2 S fp1 fp2 St1 St2 xs.size)
    (hQ : ∀ h' tk, (∀ c o, c ∉ [z, TO, i1, i2] → s.heap.get? c = some o → h'.get? c = some o) → Q none { s with heap := h', toks := tk }) : wpAny (model prog w) A (pyNext (.ref z)) Q E s := by
  obtain ⟨hTI, s1, s2, hz⟩ := st
  rcases hz with ⟨hz, a, b, hTO⟩ | ⟨T, f, oT, hz, hT, r1, r2, r3, r4⟩
  · exact wpAny_pyNext_zipD2_end Z D1 D2 hz hTI hTO s1 s2 (Nat.le_refl _) (Nat.le_of_eq hl) (.inl rfl) fun h' tk hk => hQ h' tk fun c o hc e => hk c o (fun x => hc (by simp [x])) (fun x => hc (by simp [x])) (fun x => hc (by simp [x])) (fun x => hc (by simp [x])) e
  · exact zh_pyNext_end Z D1 hz hT hTI s1 fun h' hk => hQ h' s.toks fun c o hc e => hk c o (fun x => hc (by simp [x])) (fun x => hc (by simp [x])) (fun x => hc (by simp [x])) e
theorem zs_loop (Z : ZipSep2 z TI TO i1 i2 fp1 fp2) (D1 : Draws prog w A.in1.in1 i1 fp1 xs.size (fun i v => xs[i]? = some v) St1) (D2 : Draws prog w A.in1.in1 i2 fp2 ys.size (fun i v => ys[i]? = some v) St2) (lo : ∀ b ∈ z :: TI :: TO :: (fp1 ++ fp2), b < S) (hl : xs.size = ys.size) (hn : xs.size ≤ sizeLine) (res : Value) {h₁ : Heap}
    (hR : ∀ h' tk acc c as, (∀ b o, b ≠ S → b ∉ [z, TO, i1, i2] → h₁.get? b = some o → h'.get? b = some o) → h'.get? S = some { cls := .type "list", dict := none, data := .seq acc c, slots := #[] } → as.length = xs.size → ZG xs ys S h' as →
      acc.toList = as.map Value.ref → R (.ok (.ret res)) { s with heap := h', toks := tk }) :
    ∀ (k i : Nat) (h : Heap) (tk c : Nat) (acc : Array Value) (as : List Addr), xs.size - i = k → i ≤ xs.size → ZS2 h z TI TO i1 i2 S fp1 fp2 St1 St2 i → (∀ b o, b ≠ S → b ∉ [z, TO, i1, i2] → h₁.get? b = some o → h.get? b = some o) →
      h.get? S = some { cls := .type "list", dict := none, data := .seq acc c, slots := #[] } → acc.toList = as.map Value.ref → as.length = i → ZG xs ys S h as →
      codeAny (model prog w) A (.builtin "list.extend.loop" ⟨[.ref S, .ref z, res], []⟩) R { s with heap := h, toks := tk } := by
  have wl : ∀ b ∈ [z, TO, i1, i2], b < S := fun b hb => lo b (by
    simp only [List.mem_cons, List.not_mem_nil, or_false] at hb
    rcases hb with rfl | rfl | rfl | rfl
    · simp
    · simp
    · simp [Z.mem1]
    · simp [Z.mem2])
  have hSw : S ∉ [z, TO, i1, i2] := fun hm => Nat.lt_irrefl _ (wl _ hm)
  have up0 : ∀ {a : Addr}, S < a → a ∉ [z, TO, i1, i2] := fun h hm => Nat.lt_asymm h (wl _ hm)
  intro k
  induction k with
  | zero =>
    intro i h tk c acc as hk hi hst hkeep hS hacc hal hG
    have hin : i = xs.size := by omega
    subst hin
    refine codeAny_builtin PySem.F.entry_extend_loop ?_
    rw [Around.under_plainId PySem.F.plain_extend_loop _]
    show wpAny _ A.in1 (pyNext (.ref z) >>= _) _ _ _
    refine wpAny_bind (zs_done (s := { s with heap := h, toks := tk }) (A := A.in1) Z D1 D2 hl hst fun h' tk' he => ?_)
    refine wpAny_pure (hR h' tk' acc c as (fun b o h1 h2 e => he b o h2 (hkeep b o h1 h2 e)) (he S _ hSw hS) (by omega) ⟨hG.rise, hG.above, fun j a hj => ?_⟩ hacc)
    obtain ⟨x, y, e1, e2, e3⟩ := hG.pairs j a hj
    exact ⟨x, y, e1, e2, he a _ (up0 (hG.above a (List.mem_of_getElem? hj))) e3⟩
  | succ k ih =>
    intro i h tk c acc as hk hi hst hkeep hS hacc hal hG
    have hlt : i < xs.size := by omega
    have ex := Array.getElem?_eq_getElem hlt
    have ey := Array.getElem?_eq_getElem (show i < ys.size by omega)
    have hsz : acc.size = i := by rw [← Array.length_toList, hacc, List.length_map, hal]
    refine codeAny_builtin PySem.F.entry_extend_loop ?_
    rw [Around.under_plainId PySem.F.plain_extend_loop _]
    show wpAny _ A.in1 (pyNext (.ref z) >>= _) _ _ _
    refine wpAny_bind (zs_item (s := { s with heap := h, toks := tk }) (S := S) Z D1 D2 hst (Heap.lt_size hS) ex ey fun h' tk' hst' ht hkp => ?_)
    dsimp only at ht hkp ⊢
    have hS' := hkp S _ hSw hS
    have up : ∀ b o, b ≠ S → h'.get? b = some o → (h'.update S (Obj.mapSeq (·.push (Value.ref h.objs.size)))).get? b = some o := fun b o hb e => (Heap.get?_update_other _ _ (Ne.symm hb)).trans e
    have hSl : S < h.objs.size := Heap.lt_size hS
    show wpAny _ A.in1 (updateSeq S (·.push (Value.ref h.objs.size)) >>= _) _ _ _
    refine wpAny_bind ?_
    refine wpAny_updateSeq hS' rfl (wpAny_pure ⟨plainId_quiet PySem.F.plain_extend_loop _, ih (i + 1) _ tk' _ (acc.push (Value.ref h.objs.size)) (as ++ [h.objs.size]) (by omega) hlt (hst'.keep D1 D2 up fun b hb => Nat.ne_of_lt (lo b hb))
      (fun b o h1 h2 e => up b o h1 (hkp b o h2 (hkeep b o h1 h2 e))) (Heap.get?_update_self _ hS' rfl) (by rw [Array.toList_push, hacc, List.map_append]; rfl) (by rw [List.length_append, hal]; rfl) ⟨?_, ?_, ?_⟩⟩) (by rw [hsz]; omega) (by show (acc.push (Value.ref h.objs.size)).size ≤ sizeLine + 1; rw [Array.size_push, hsz]; omega)
    · refine List.pairwise_append.mpr ⟨hG.rise, List.pairwise_singleton _ _, fun a ha b hb => ?_⟩
      rw [List.mem_singleton.mp hb]
      exact hG.there ha
    · intro a ha
      rcases List.mem_append.mp ha with ha | ha
      · exact hG.above a ha
      · rw [List.mem_singleton.mp ha]; exact hSl
    · intro j b hj
      rcases Nat.lt_trichotomy j as.length with h1 | h1 | h1
      · rw [List.getElem?_append_left h1] at hj
        obtain ⟨x', y', e1, e2, e3⟩ := hG.pairs j b hj
        have hb := hG.above b (List.mem_of_getElem? hj)
        exact ⟨x', y', e1, e2, up b _ (Nat.ne_of_gt hb) (hkp b _ (up0 hb) e3)⟩
      · subst h1
        have hb : h.objs.size = b := by simpa using hj
        subst hb
        exact ⟨_, _, by rw [hal]; exact ex, by rw [hal]; exact ey, up _ _ (Nat.ne_of_gt hSl) ht⟩
      · have hnone : (as ++ [h.objs.size])[j]? = none := List.getElem?_eq_none (by rw [List.length_append, List.length_singleton]; omega)
        rw [hnone] at hj; cases hj
theorem zs_extend (Z : ZipSep2 z TI TO i1 i2 fp1 fp2) (D1 : Draws prog w A.in1.in1 i1 fp1 xs.size (fun i v => xs[i]? = some v) St1) (D2 : Draws prog w A.in1.in1 i2 fp2 ys.size (fun i v => ys[i]? = some v) St2) (st : ZS2 s.heap z TI TO i1 i2 S fp1 fp2 St1 St2 0) (hz : IsZip s.heap z TI TO .none) (lo : ∀ b ∈ z :: TI :: TO :: (fp1 ++ fp2), b < S) (hl : xs.size = ys.size) (hn : xs.size ≤ sizeLine) (res : Value) (c₀ : Nat) (hS : s.heap.get? S = some { cls := .type "list", data := .seq #[] c₀ })
    (hR : ∀ h' tk acc c as, (∀ b o, b ≠ S → b ∉ [z, TO, i1, i2] → s.heap.get? b = some o → h'.get? b = some o) → h'.get? S = some { cls := .type "list", dict := none, data := .seq acc c, slots := #[] } → as.length = xs.size → ZG xs ys S h' as →
      acc.toList = as.map Value.ref → R (.ok (.ret res)) { s with heap := h', toks := tk }) :
    wpAny (model prog w) A.in1 (Builtin.List.listExtendWith (.ref S) (.ref z) res)
      (fun fin s' => match fin with | .done f => R (.ok f) s' | .again c' => c'.quiet = true ∧ codeAny (model prog w) A c' R s') (fun e s' => R (.error e) s') s := by
  have hSz : S ≠ z := Nat.ne_of_gt (lo z (by simp))
  have hT : s.TypeIs (.ref z) "zip" := ⟨_, hz, rfl⟩
  unfold Builtin.List.listExtendWith
  refine wpAny_bind (wpAny_typeOf hT ?_)
  have h1 : Builtin.List.listSameRef (.ref S) (.ref z) = false := by simp [Builtin.List.listSameRef, hSz]
  have h2 : (Value.type "zip" == Value.type "list") = false := by decide
  have h3 : (Value.type "zip" == Value.type "tuple") = false := by decide
  simp only [h1, h2, h3, Bool.or_false, Bool.false_eq_true, if_false]
  refine wpAny_bind (wpAny_pyIter_zip hz ?_)
  refine wpAny_bind (wpAny_holding ?_)
  unfold Builtin.List.listLengthHint
  refine wpAny_bind (wpAny_specialOf hT zip_no_len ?_)
  show wpAny _ A.in1 (specialOf (Value.ref z) (Str.ofString "__length_hint__") >>= _) _ _ _
  refine wpAny_bind (wpAny_specialOf hT zip_no_hint ?_)
  refine wpAny_pure ?_
  show wpAny _ A.in1 (rule "list.extend.makes-room" >>= fun _ => Builtin.List.listTouch (.ref S) >>= fun _ =>
    again (.builtin "list.extend.loop" ⟨[.ref S, .ref z, res], []⟩)) _ _ _
  refine wpAny_bind (wpAny_rule ?_)
  refine wpAny_bind ?_
  show wpAny _ A.in1 (updateSeq S (·.push .none) >>= fun _ => updateSeq S (·.pop)) _ _ _
  refine wpAny_bind (wpAny_updateSeq hS rfl ?_)
  have hS₂ := Heap.get?_update_self (Obj.mapSeq (·.push Value.none)) hS rfl
  refine wpAny_updateSeq (hz := by seq_fits) hS₂ rfl ?_
  have hS₃ := Heap.get?_update_self (Obj.mapSeq (·.pop)) hS₂ rfl
  have oth : ∀ b o, b ≠ S → s.heap.get? b = some o → ((s.heap.update S (Obj.mapSeq (·.push Value.none))).update S (Obj.mapSeq (·.pop))).get? b = some o :=
    fun b o hb e => (Heap.get?_update_other _ _ (Ne.symm hb)).trans ((Heap.get?_update_other _ _ (Ne.symm hb)).trans e)
  refine wpAny_pure ⟨plainId_quiet PySem.F.plain_extend_loop _, ?_⟩
  refine zs_loop (s := s) (h₁ := s.heap) Z D1 D2 lo hl hn res hR xs.size 0 _ _ _ #[] [] (Nat.sub_zero _) (Nat.zero_le _) (st.keep D1 D2 oth fun b hb => Nat.ne_of_lt (lo b hb)) (fun b o hb _ e => oth b o hb e) hS₃ rfl rfl ⟨List.Pairwise.nil, (fun _ ha => nomatch ha), (fun j a hj => by simp at hj)⟩
theorem zs_init (Z : ZipSep2 z TI TO i1 i2 fp1 fp2) (D1 : Draws prog w A.in1.in1 i1 fp1 xs.size (fun i v => xs[i]? = some v) St1) (D2 : Draws prog w A.in1.in1 i2 fp2 ys.size (fun i v => ys[i]? = some v) St2) (st : ZS2 s.heap z TI TO i1 i2 S fp1 fp2 St1 St2 0) (hz : IsZip s.heap z TI TO .none) (lo : ∀ b ∈ z :: TI :: TO :: (fp1 ++ fp2), b < S) (hl : xs.size = ys.size) (hn : xs.size ≤ sizeLine) (hS : s.heap.get? S = some { cls := .type "list", data := .seq #[] })
    (hR : ∀ h' tk acc c as, (∀ b o, b ≠ S → b ∉ [z, TO, i1, i2] → s.heap.get? b = some o → h'.get? b = some o) → h'.get? S = some { cls := .type "list", dict := none, data := .seq acc c, slots := #[] } → as.length = xs.size → ZG xs ys S h' as →
      acc.toList = as.map Value.ref → R (.ok (.ret .none)) { s with heap := h', toks := tk }) :
    wpAny (model prog w) A.in1 (Builtin.«list.__init__» ⟨[.ref S, .ref z], []⟩)
      (fun fin s' => match fin with | .done f => R (.ok f) s' | .again c' => c'.quiet = true ∧ codeAny (model prog w) A c' R s') (fun e s' => R (.error e) s') s := by
  show wpAny _ _ (do let old ← Builtin.List.listItems (.ref S); Builtin.List.listUpdate (.ref S) (fun _ => #[]); letGo old.toList.reverse; Builtin.List.listExtendWith (.ref S) (.ref z) .none) _ _ s
  refine wpAny_bind ?_
  unfold Builtin.List.listItems
  refine wpAny_bind (wpAny_seqItems hS rfl (wpAny_pure ?_))
  show wpAny _ _ (updateSeq S (fun _ => #[]) >>= fun _ => letGo (#[] : Array Value).toList.reverse >>= fun _ => Builtin.List.listExtendWith (.ref S) (.ref z) .none) _ _ s
  refine wpAny_bind (wpAny_updateSeq hS rfl ?_)
  have hS₂ := Heap.get?_update_self (Obj.mapSeq (fun _ => (#[] : Array Value))) hS rfl
  have oth : ∀ b o, b ≠ S → s.heap.get? b = some o → (s.heap.update S (Obj.mapSeq (fun _ => (#[] : Array Value)))).get? b = some o :=
    fun b o hb e => (Heap.get?_update_other _ _ (Ne.symm hb)).trans e
  refine wpAny_bind (wpAny_letGo ?_)
  refine zs_extend Z D1 D2 (st.keep D1 D2 oth fun b hb => Nat.ne_of_lt (lo b hb)) (oth _ _ (Nat.ne_of_lt (lo z (by simp))) hz) lo hl hn .none _ hS₂ fun h' tk acc c as hk hS' hal hG hacc => ?_
  exact hR h' tk acc c as (fun b o hb hw e => hk b o hb hw (oth b o hb e)) hS' hal hG hacc
theorem zs_call {Q : Value → Shared → Prop} (Z : ZipSep2 z TI TO i1 i2 fp1 fp2) (D1 : Draws prog w A.in1.in1.in1 i1 fp1 xs.size (fun i v => xs[i]? = some v) St1) (D2 : Draws prog w A.in1.in1.in1 i2 fp2 ys.size (fun i v => ys[i]? = some v) St2) (st : ∀ S, s.heap.get? S = none → ZS2 s.heap z TI TO i1 i2 S fp1 fp2 St1 St2 0) (hz : IsZip s.heap z TI TO .none) (lo : ∀ b ∈ z :: TI :: TO :: (fp1 ++ fp2), b < s.heap.objs.size) (hl : xs.size = ys.size) (hn : xs.size ≤ sizeLine)
    (hQ : ∀ h' tk acc c as, (∀ b o, b ∉ [z, TO, i1, i2] → s.heap.get? b = some o → h'.get? b = some o) → h'.get? s.heap.objs.size = some { cls := .type "list", dict := none, data := .seq acc c, slots := #[] } → as.length = xs.size → ZG xs ys s.heap.objs.size h' as →
      acc.toList = as.map Value.ref → Q (.ref s.heap.objs.size) { s with heap := h', toks := tk }) :
    wpAny (model prog w) A (call (.type "list") [.ref z]) Q E s := by
  refine callType_codes (Q₁ := fun obj s₁ => obj = .ref s.heap.objs.size ∧ s₁ = { s with heap := s.heap.push { cls := .type "list", data := .seq #[] } }) PySem.F.called_list (PySem.F.typeCall_list_1 _) PySem.F.entry_list_init
    (code_list_new _ ⟨rfl, rfl⟩) fun obj s₁ h₁ => ?_
  obtain ⟨rfl, rfl⟩ := h₁
  have hS : (s.heap.push { cls := .type "list", data := .seq #[] }).get? s.heap.objs.size = some { cls := .type "list", data := .seq #[] } := Heap.get?_push_size _ rfl
  have up : ∀ b o, s.heap.get? b = some o → (s.heap.push { cls := .type "list", data := .seq #[] }).get? b = some o := fun b o e => Heap.get?_push_of_some _ e
  have no : s.heap.get? s.heap.objs.size = none := by
    cases e : s.heap.get? s.heap.objs.size with
    | none => rfl
    | some o => exact absurd (Heap.lt_size e) (Nat.lt_irrefl _)
  refine ⟨⟨_, hS, rfl⟩, PySem.F.args_list_init_2 _ _, zs_init (A := A.in1) Z D1 D2 ((st _ no).keep D1 D2 (fun b o _ e => up b o e) fun b hb => Nat.ne_of_lt (lo b hb)) (up _ _ hz) lo hl hn hS fun h' tk acc c as hk hS' hal hG hacc => ?_⟩
  exact ⟨rfl, hQ h' tk acc c as (fun b o hw e => hk b o (Nat.ne_of_lt (Heap.lt_size e)) hw (up _ _ e)) hS' hal hG hacc⟩
end
end Sl

set_option Elab.async false
set_option linter.all false
set_option maxRecDepth 100000
set_option maxHeartbeats 1000000
/-! ### list(zip(x, y)) as an expression -/
namespace Sl
open PySem PySem.Spec PyProof.Rows L2
/-- what iter gives a tuple's iterator for -/
def Src (K : PySem.W.Frag) (C : Addr) (sp : Nat → Sp) (E : XK) (x : V) (H : Hp) (R : Addr → Hp → Prop) : Prop :=
  (∃ a zs, x = .ref a ∧ SqT K H a zs ∧ R a H) ∨ ∃ a dx fs, x = .ref a ∧ H a = some (.ins C dx fs) ∧ spIt K sp E a H R
theorem zs_apart (m i1 t1 i2 t2 : Nat) (h1 : i1 < m) (h2 : t1 < m) (h3 : i2 < m) (h4 : t2 < m) (n12 : i1 ≠ i2) (a12 : i1 ≠ t2) (a21 : i2 ≠ t1) : ZipSep2 (m + 2) m (m + 1) i1 i2 [i1, t1] [i2, t2] := by
  have ne : ∀ a b : Nat, a < b ∨ b < a → a ≠ b := fun a b h => by omega
  have no2 : ∀ a b c : Nat, a ≠ b → a ≠ c → a ∉ [b, c] := fun a b c h1 h2 h => by
    rcases List.mem_cons.mp h with h | h
    · exact h1 h
    · exact h2 (List.mem_singleton.mp h)
  exact ⟨ne _ _ (by omega), ne _ _ (by omega), ne _ _ (by omega), ne _ _ (by omega), List.mem_cons_self, no2 _ _ _ (ne _ _ (by omega)) (ne _ _ (by omega)), no2 _ _ _ (ne _ _ (by omega)) (ne _ _ (by omega)), ne _ _ (by omega), List.mem_cons_self,
          no2 _ _ _ (ne _ _ (by omega)) (ne _ _ (by omega)), no2 _ _ _ (ne _ _ (by omega)) (ne _ _ (by omega)), no2 _ _ _ n12 a12, no2 _ _ _ (Ne.symm n12) a21⟩
theorem zs_low (m i1 t1 i2 t2 c : Nat) (h1 : i1 < m) (h2 : t1 < m) (h3 : i2 < m) (h4 : t2 < m) (h : c ∈ (m + 2) :: m :: (m + 1) :: ([i1, t1] ++ [i2, t2])) : c < m + 3 := by
  simp only [List.cons_append, List.nil_append, List.mem_cons, List.not_mem_nil, or_false] at h
  rcases h with rfl | rfl | rfl | rfl | rfl | rfl | rfl <;> omega
theorem zs_off (m i1 i2 b : Nat) (h : b < m) (nb : b ∉ [i1, i2]) (hm : b ∈ [m + 2, m + 1, i1, i2]) : False := by
  simp only [List.mem_cons, List.not_mem_nil, or_false] at hm nb
  rcases hm with hm | hm | hm | hm
  · omega
  · omega
  · exact nb (.inl hm)
  · exact nb (.inr hm)
section
variable {X : Cx} {CX : CXT} {C g : Addr} {n : Nat} {sp : Nat → Sp} {E : XK}
theorem src_it {pins : List (Addr × Obj)} {σ : L2.St} {H : Hp} {s : Shared} {A : Around} {x : V} {u : Value} {R : Addr → Hp → Prop} {W : Value → Shared → Prop} (hs : PySem.W.findIn X.K (.ref C) "__iter__" = some (some (.ref g))) (hf : PySem.W.isFn X.K (.ref g) = true) (F : FnY X.prog X.w X.K X.mg X.base CX n g sp)
    (hr : Room n A) (hA : A.frames = X.A.frames) (hx : Passes CX X E) (I : Inv X pins σ H s) (rx : RelV x u) (h : Src X.K C sp E x H R)
    (hW : ∀ (t it : Addr) (H' : Hp) (s' : Shared) (zs : List V), Inv X pins σ H' s' → s'.heap.IsTupleIter it t 0 → FpOk X pins H' it → s.heap.objs.size ≤ it → SqT X.K H' t zs → R t H' → W (.ref it) s') : wpAny (model X.prog X.w) A (pyIter u) W X.xe s := by
  rcases h with ⟨a, zs, rfl, hq, q⟩ | ⟨a, dx, fs, rfl, ha, q⟩
  · cases rx
    obtain ⟨its, rv, p, hz⟩ := I.tuple hq
    exact wpAny_pyIter_tuple (show s.heap.IsTuple a its.toArray from p) (hW a s.heap.objs.size H _ zs (I.kept (t' := s.toks) fun b o e => Heap.get?_push_of_some _ e) ⟨_, Heap.get?_push_size _ rfl, rfl, rfl⟩ (I.fpOk (Nat.le_refl _) (I.hok.fresh (Nat.le_refl _))) (Nat.le_refl _) hq q)
  · cases rx
    exact own_it hs hf F hr hA hx I ha q hW
theorem zip_laid2 {pins : List (Addr × Obj)} {σ : L2.St} {H : Hp} {s : Shared} {h' : Heap} {tk : Nat} {xs ys : List V} {us vs : List Value} {acc : Array Value} {c : Nat} {as : List Addr} {S : Addr} {ch : List Addr} (I : Inv X pins σ H s) (hch : ∀ b ∈ ch, FpOk X pins H b) (rx : Vals xs us) (ry : Vals ys vs) (he : xs.length = ys.length) (hz : xs.length ≤ sizeLine)
    (hS0 : s.heap.objs.size ≤ S) (hk : ∀ b o, b ∉ ch → s.heap.get? b = some o → h'.get? b = some o) (hS : h'.get? S = some { cls := .type "list", dict := none, data := .seq acc c, slots := #[] }) (hl : as.length = us.toArray.size) (hG : ZG us.toArray vs.toArray S h' as) (hacc : acc.toList = as.map Value.ref) :
    ∃ H' : Hp, ZipTo H H' S as xs ys ∧ Inv X pins σ H' { s with heap := h', toks := tk } := by
  have lx := rx.length
  have ly := ry.length
  have hla : as.length = xs.length := by rw [hl, List.size_toArray]; omega
  have lz : (xs.zip ys).length = as.length := by rw [List.length_zip]; omega
  have hSn : S ∉ as := fun z => Nat.lt_irrefl _ (hG.above _ z)
  have nd : as.Nodup := List.Pairwise.imp (fun {a b} (h : a < b) => Nat.ne_of_lt h) hG.rise
  have new : ∀ t ∈ as, H t = none := fun t ht => I.hok.fresh (Nat.le_trans hS0 (Nat.le_of_lt (hG.above t ht)))
  have newS : H S = none := I.hok.fresh hS0
  have nch : ∀ b u, H b = some u → b ∉ ch := fun b u e z => by rw [(hch b z).1] at e; cases e
  have atP := putP_at as (xs.zip ys) (upd H S (.lst (as.map V.ref))) lz.symm nd
  have off : ∀ b, b ∉ as → b ≠ S → putP (upd H S (.lst (as.map V.ref))) as (xs.zip ys) b = H b := fun b h1 h2 => by rw [putP_off as _ _ h1, upd_ne h2]
  have low : ∀ b o, s.heap.get? b = some o → b ∉ as ∧ b ≠ S := fun b o e => by
    have hb : b < S := Nat.lt_of_lt_of_le (Heap.lt_size e) hS0
    exact ⟨fun z => absurd (hG.above b z) (Nat.lt_asymm hb), Nat.ne_of_lt hb⟩
  have kp : ∀ b u, H b = some u → (putP (upd H S (.lst (as.map V.ref))) as (xs.zip ys)) b = some u := fun b u e => by
    rw [off b (fun z => by rw [new b z] at e; cases e) (fun z => by rw [z, newS] at e; cases e)]
    exact e
  have eS : putP (upd H S (.lst (as.map V.ref))) as (xs.zip ys) S = some (.lst (as.map V.ref)) := by rw [putP_off as _ _ hSn, upd_same]
  have atZ : ∀ (j : Nat) (t : Addr) (x y : V), as[j]? = some t → xs[j]? = some x → ys[j]? = some y → putP (upd H S (.lst (as.map V.ref))) as (xs.zip ys) t = some (.tup [x, y]) := fun j t x y e1 e2 e3 =>
    atP j t (x, y) e1 (by rw [List.getElem?_zip_eq_some]; exact ⟨e2, e3⟩)
  refine ⟨putP (upd H S (.lst (as.map V.ref))) as (xs.zip ys), ⟨kp, newS, new, hSn, eS, hla, atZ⟩, ?_⟩
  refine I.call' (ch := ch) rfl ⟨fun b o q _ _ nb => hk b o nb q, fun b o q _ _ nb => ⟨o.slots, hk b o nb q⟩, fun b o q n _ => ?_, fun b o q nb => ⟨o, hk b o nb q⟩, fun b xs q => kp b _ q, fun b o u q => kp b _ q, fun b ps q => ⟨#[], by rw [kp b _ q]; simp⟩⟩ (fun b u q => ?_) I.bare fun b z => ?_
  · obtain ⟨z1, z2⟩ := low b o q
    rw [off b z1 z2]
    exact n
  · by_cases hb : b ∈ as
    · obtain ⟨j, hj⟩ := List.mem_iff_getElem?.mp hb
      have hjl : j < as.length := (List.getElem?_eq_some_iff.mp hj).1
      have ex := List.getElem?_eq_getElem (l := xs) (i := j) (by omega)
      have ey := List.getElem?_eq_getElem (l := ys) (i := j) (by omega)
      rw [atZ j b _ _ hj ex ey] at q
      cases q
      obtain ⟨u, v, f1, f2, f3⟩ := hG.pairs j b hj
      obtain ⟨u', g1, g2⟩ := rx.get ex
      obtain ⟨v', g3, g4⟩ := ry.get ey
      have hu : us[j]? = some u := by simpa using f1
      have hv : vs[j]? = some v := by simpa using f2
      rw [hu] at g1
      rw [hv] at g3
      cases g1
      cases g3
      exact ⟨by show 2 ≤ sizeLine; decide, [u, v], .cons g2 (.cons g4 .nil), ⟨_, f3, rfl, _, rfl⟩⟩
    · by_cases hb2 : b = S
      · rw [hb2] at q ⊢
        rw [eS] at q
        cases q
        refine ⟨by rw [List.length_map]; omega, acc.toList, c, by rw [hacc]; exact LiI.vals_refs as, ?_⟩
        rw [Array.toArray_toList]
        exact hS
      · rw [off b hb hb2] at q
        refine (I.hok b u q).stay (fun d v hd y => hk d v (hd.elim (fun e => nch d u (e ▸ q)) fun e => nch d _ e) y) (fun d y => kp d _ y) fun d xs y => kp d _ y
  · exact ⟨(hch b z).2.2.2.1, (hch b z).2.1, (hch b z).2.2.2.2.1, (hch b z).2.2.2.2.2⟩
variable {e e2 : Expr} {ta : TA} {p p2 cpos pos : Pos}
def tListZipS (K : PySem.W.Frag) (C : Addr) (sp : Nat → Sp) (E : XK) (ta : TA) : TE := fun σ H Q => ta σ H fun vs H1 => ∃ x y, vs = [x, y] ∧ Src K C sp E x H1 fun t1 H2 => Src K C sp E y H2 fun t2 H3 => ∃ xs ys, SqT K H3 t1 xs ∧ SqT K H3 t2 ys ∧ xs.length = ys.length ∧
  ∀ H' p ts, ZipTo H3 H' p ts xs ys → Q (.ref p) H'
/-- list(zip(x, y)) -/
theorem pe_listZipS (hi : PySem.W.findIn X.K (.ref C) "__iter__" = some (some (.ref g))) (hf : PySem.W.isFn X.K (.ref g) = true) (F : FnY X.prog X.w X.K X.mg X.base CX n g sp) (hr : Room (n + 2) X.A) (hx : Passes CX X E)
    (hc : X.calm = true) (ha : PA X [e, e2] ta) (hg : Gl X "list") (hm : X.mg "list" = none) (hv : bootBuiltins "list" = some (.type "list")) (hgz : Gl X "zip") (hmz : X.mg "zip" = none)
    (hs : starEach [.Call (.Name "zip" p2) [e, e2] [] cpos] X.env = (false, eval (.Call (.Name "zip" p2) [e, e2] [] cpos) X.env) :: starEach [] X.env := by rfl)
    (hs2 : starEach [e, e2] X.env = (false, eval e X.env) :: starEach [e2] X.env := by rfl) (hpl : (backTo cpos (starEach [e2] X.env)).any (·.1) = false := by rfl) :
    PE X (.Call (.Name "list" p) [.Call (.Name "zip" p2) [e, e2] [] cpos] [] pos) (tListZipS X.K C sp E ta) := by
  refine ⟨fun pins s σ H Q I h => ?_⟩
  refine wpAny_Call_Name_kw (ld_blt I hg hm hv ?_)
  refine PyProof.Rows.callWith_type1 ?_ hs rfl
  rw [hs]
  show wpAny _ _ (spliced ((false, eval (.Call (.Name "zip" p2) [e, e2] [] cpos) X.env) :: backTo pos (starEach [] X.env))) _ _ s
  refine Calls.spliced_cons ?_
  refine Call_ (ld_blt I hgz hmz PyProof.Rows.boot_zip (PyProof.Rows.callWith_type1 (thn (ha.run cpos pins s σ H _ I h) fun us s1 ⟨vs, H1, I1, r1, q1⟩ => ?_) hs2 hpl))
  obtain ⟨x, y, ex, q⟩ := q1
  subst ex
  cases r1 with
  | cons r rr =>
    cases rr with
    | cons r' rr =>
      cases rr
      refine zg_call (src_it (A := X.A.in1.in1) hi hf F hr.in1.in1 rfl hx I1 r q fun t1 it1 H2 s2 zs1 I2 st1 fp1 hm1 sq1 q2 => ?_)
      have I2p := I2.pinned (fp := [it1]) (fun b hb => by rw [List.mem_singleton.mp hb]; exact fp1) (fun b hb => by
        rw [List.mem_singleton.mp hb]
        obtain ⟨o, e, c, d⟩ := st1
        exact ⟨o, e, fun v z => by rw [d] at z; cases z⟩)
      refine src_it (A := X.A.in1.in1) hi hf F hr.in1.in1 rfl hx I2p r' q2 fun t2 it2 H3 s3 zs2 I3p st2 fp2 hm2 sq2 q3 => ?_
      intro h' hz hTI hTO hsz hk
      have I3 := I3p.unpinned
      obtain ⟨o1, e1, c1, d1⟩ := id st1
      have pin1 : s3.heap.get? it1 = some o1 ∧ H3 it1 = none := by
        have hp := I3p.pin (it1, o1) (by
          refine List.mem_append_right _ (List.mem_append_right _ ?_)
          show (it1, o1) ∈ pinsAt [it1] s2.heap
          simp [pinsAt, e1])
        exact ⟨hp.1, hp.2.1⟩
      have st1' : s3.heap.IsTupleIter it1 t1 0 := ⟨o1, pin1.1, c1, d1⟩
      have f1 : FpOk X pins H3 it1 := ⟨pin1.2, fp1.2⟩
      have f2 : FpOk X pins H3 it2 := ⟨fp2.1, fp2.2.1, fp2.2.2.1, fp2.2.2.2.1, fp2.2.2.2.2.1, fun p hp => fp2.2.2.2.2.2 p (by
        rcases List.mem_append.mp hp with z | z
        · exact List.mem_append_left _ z
        · exact List.mem_append_right _ (List.mem_append_left _ z))⟩
      obtain ⟨xs, ys, hqx, hqy, hle, q⟩ := q3
      obtain ⟨its, rv, pl1, hsz1⟩ := I3.tuple hqx
      obtain ⟨its2, rv2, pl2, _⟩ := I3.tuple hqy
      have pl1 : s3.heap.IsTuple t1 its.toArray := pl1
      have pl2 : s3.heap.IsTuple t2 its2.toArray := pl2
      have lx := rv.length
      have ly := rv2.length
      obtain ⟨ot1, et1, ct1, _⟩ := id pl1
      obtain ⟨ot2, et2, ct2, _⟩ := id pl2
      obtain ⟨o2, e2', c2, d2⟩ := id st2
      have l1 : it1 < s3.heap.objs.size := Heap.lt_size pin1.1
      have l2 : it2 < s3.heap.objs.size := Heap.lt_size e2'
      have k1 : t1 < s3.heap.objs.size := Heap.lt_size et1
      have k2 : t2 < s3.heap.objs.size := Heap.lt_size et2
      have n12 : it1 ≠ it2 := Nat.ne_of_lt (Nat.lt_of_lt_of_le (Heap.lt_size e1) hm2)
      have cne : ∀ {a b : Addr} {oa ob : Obj}, s3.heap.get? a = some oa → s3.heap.get? b = some ob → oa.cls = .type "tuple_iterator" → ob.cls = .type "tuple" → a ≠ b := fun ha hb h1 h2 z => by
        rw [z, hb] at ha
        cases ha
        rw [h1] at h2
        exact absurd h2 (by decide)
      have a11 : it1 ≠ t1 := cne pin1.1 et1 c1 ct1
      have a12 : it1 ≠ t2 := cne pin1.1 et2 c1 ct2
      have a21 : it2 ≠ t1 := cne e2' et1 c2 ct1
      have a22 : it2 ≠ t2 := cne e2' et2 c2 ct2
      generalize hn : s3.heap.objs.size = m at *
      have Z := zs_apart m it1 t1 it2 t2 l1 k1 l2 k2 n12 a12 a21
      refine Calls.spliced_nil ?_
      have D1 : ∀ {A : Around}, A.handled = none → Draws X.prog X.w A it1 [it1, t1] its.toArray.size (fun i v => its.toArray[i]? = some v) (fun i h => h.IsTupleIter it1 t1 i ∧ h.IsTuple t1 its.toArray) := fun hh => Draws.tuple hh it1 t1 (Ne.symm a11) its.toArray
      have D2 : ∀ {A : Around}, A.handled = none → Draws X.prog X.w A it2 [it2, t2] its2.toArray.size (fun i v => its2.toArray[i]? = some v) (fun i h => h.IsTupleIter it2 t2 i ∧ h.IsTuple t2 its2.toArray) := fun hh => Draws.tuple hh it2 t2 (Ne.symm a22) its2.toArray
      have hh := I3.ok.hd hc
      have tup_at : ∀ {t : Addr} {items : Array Value}, s3.heap.IsTuple t items → h'.IsTuple t items := fun ⟨o, ho, r⟩ => ⟨o, hk _ _ ho, r⟩
      refine zs_call (s := { s3 with heap := h' }) Z (D1 (A := X.A.in1.in1.in1) hh) (D2 (A := X.A.in1.in1.in1) hh) (fun S _ => ⟨hTI, ⟨st1'.at fun o e => hk _ o e, tup_at pl1⟩, ⟨st2.at fun o e => hk _ o e, tup_at pl2⟩, .inl ⟨hz, _, _, hTO⟩⟩) hz (fun c hcm => ?_) (by rw [List.size_toArray, List.size_toArray]; omega) (by rw [List.size_toArray]; omega) fun h2' tk acc c as hk2 hS hal hG hacc => ?_
      · show c < h'.objs.size
        rw [hsz]
        exact zs_low m it1 t1 it2 t2 c l1 k1 l2 k2 hcm
      · obtain ⟨H', zt, J⟩ := zip_laid2 (h' := h2') (tk := tk) (ch := [it1, it2]) I3 (fun b hb => by
          simp only [List.mem_cons, List.not_mem_nil, or_false] at hb
          rcases hb with rfl | rfl
          · exact f1
          · exact f2) rv rv2 hle (by omega) (S := h'.objs.size) (by rw [hsz, hn]; exact Nat.le_add_right _ _) (fun b o nb e => hk2 b o (fun hm => zs_off m it1 it2 b (by rw [← hn]; exact Heap.lt_size e) nb hm) (hk b o e)) hS hal hG hacc
        exact ⟨.ref _, H', J, rfl, q H' _ as zt⟩
end
end Sl

set_option Elab.async false
set_option linter.all false
set_option maxRecDepth 100000
set_option maxHeartbeats 1000000
/-! ### for (i, x) in zip(range(a, b), y) -/
namespace PySem
section
variable {prog : Program} {w : World} {A : Around} {E : Value → Shared → Prop} {s : Shared}
theorem wpAny_nextOf_range_item {it : Addr} {x left step : Int} {Q : Value → Shared → Prop} (hit : IsRangeIter s.heap it x left step) (hleft : 0 < left)
    (hQ : ∀ h', IsRangeIter h' it (x + step) (left - 1) step → Heap.SameBut it s.heap h' → Q (.int x s.toks) { s with heap := h', toks := s.toks + 1 }) : wpAny (model prog w) A (Builtin.SmallTypes.nextOf (.ref it)) Q E s := by
  have hT : s.TypeIs (.ref it) "range_iterator" := ⟨_, hit, rfl⟩
  unfold Builtin.SmallTypes.nextOf
  refine wpAny_bind (wpAny_callSpecial?_slot (name := Str.ofString "__next__") hT F.slot_range_iterator_next
    (call_meets F.slot_range_iterator_next hT F.entry_range_iterator_next (F.args_range_iterator_next_1 _) (AutoRange.range_iterator___next___range_iterator_1 it x left step (by omega)) ⟨hit, ?_⟩))
  exact wpAny_pure (hQ _ (Heap.get?_update_self _ (Heap.get?_update_self _ hit rfl) rfl) ((Heap.SameBut.update ..).trans (Heap.SameBut.update ..)))
theorem wpAny_nextOf_range_end {it : Addr} {x left step : Int} {Q : Value → Shared → Prop} (hh : A.handled = none) (hit : IsRangeIter s.heap it x left step) (hleft : left ≤ 0)
    (hE : ∀ h' e, Heap.ExtBut it s.heap h' → (∃ o, h'.get? e = some o ∧ o.cls = .type "StopIteration") → E (.ref e) { s with heap := h' }) : wpAny (model prog w) A (Builtin.SmallTypes.nextOf (.ref it)) Q E s := by
  have hT : s.TypeIs (.ref it) "range_iterator" := ⟨_, hit, rfl⟩
  unfold Builtin.SmallTypes.nextOf
  refine wpAny_bind (wpAny_callSpecial?_slot (name := Str.ofString "__next__") hT F.slot_range_iterator_next
    (wpAny_call_entry F.slot_range_iterator_next hT F.entry_range_iterator_next ?_ (F.args_range_iterator_next_1 _)))
  show wpAny _ _ (field (.ref it) 0 >>= _) _ _ s
  refine wpAny_bind (wpAny_field hit rfl (x := rawInt x) rfl ?_)
  show wpAny _ _ (field (.ref it) 1 >>= _) _ _ s
  refine wpAny_bind (wpAny_field hit rfl (x := rawInt left) rfl ?_)
  show wpAny _ _ (field (.ref it) 2 >>= _) _ _ s
  refine wpAny_bind (wpAny_field hit rfl (x := rawInt step) rfl ?_)
  show wpAny _ _ (if left ≤ 0 then _ else _) _ _ s
  rw [if_pos hleft]
  refine wpAny_bind (wpAny_rule ?_)
  refine wpAny_bind ?_
  show wpAny _ _ (newExc (.type "StopIteration") [] >>= _) _ _ _
  refine wpAny_bind ?_
  simp only [newExc, newTuple]
  refine wpAny_bind (wpAny_newObj_type ?_ (by size_fits))
  refine wpAny_bind (m := firstArgMember _ _) (wpAny_of_eq (a := Value.none) (by first | rfl | (simp only [firstArgMember]; rfl)) ?_)
  refine wpAny_newObj_type ?_ (by size_fits)
  simp only [raiseNew]
  refine wpAny_bind (wpAny_handled ?_)
  first | rw [show A.in1.handled = none from hh] | rw [hh]
  refine wpAny_bind (wpAny_pure (wpAny_throw ?_))
  exact hE _ _ (((Heap.ExtBut.refl it s.heap).push _).push _) ⟨_, Heap.get?_push_size _ rfl, rfl⟩
end
theorem Draws.range {prog : Program} {w : World} {A : Around} (hh : A.handled = none) (it : Addr) (lo : Int) (n : Nat) :
    Draws prog w A it [it] n (fun i v => ∃ t, v = .int (lo + (i : Nat)) t) (fun i h => IsRangeIter h it (lo + (i : Nat)) ((n : Int) - (i : Nat)) 1) where
  live := fun _ _ st => ⟨_, st⟩
  frame := fun _ _ _ st hk => hk it (by simp) _ st
  item := fun i s Q E hi st hQ => wpAny_nextOf_range_item st (by omega) fun h' st' sb => hQ _ h' _ ⟨_, rfl⟩ (by
    have e1 : lo + ((i + 1 : Nat) : Int) = lo + (i : Nat) + 1 := by omega
    have e2 : (n : Int) - ((i + 1 : Nat) : Int) = (n : Int) - (i : Nat) - 1 := by omega
    rw [e1, e2]
    exact st') sb
  done := fun s Q E st hE => wpAny_nextOf_range_end hh st (by omega) hE
end PySem
namespace Sl
open PySem PySem.Spec PyProof.Rows L2
def ItzR (K : PySem.W.Frag) (lo : Int) (n : Nat) (b : Addr) : It where
  go := fun i H => ∃ (ys : List V) (y : V), SqT K H b ys ∧ ys[i]? = some y ∧ i < n
  yld := fun i H v H' => ∃ T y, v = .ref T ∧ H T = none ∧ H' = upd H T (.tup [.int (lo + (i : Nat)), y]) ∧ ∀ ys, SqT K H b ys → ys[i]? = some y
  stop := fun i H => ∃ ys : List V, SqT K H b ys ∧ i ≤ n ∧ i ≤ ys.length ∧ (i = n ∨ i = ys.length)
theorem zr_turn {P : Program} {w : World} {K : PySem.W.Frag} {elts : List Expr} {kk : Nat} {tpos : Pos} {lo : Int} {n : Nat} {b z TI TO i1 i2 : Addr} (D : ZipSep2 z TI TO i1 i2 [i1] [i2, b]) (nb : b ≠ i2) :
    Turn P w K (.Tuple elts kk tpos) (ItzR K lo n b) [z, TI, TO, i1, i2] z (fun i h => IsZip h z TI TO .none ∧ IsTupOf2 h TI (.ref i1) (.ref i2) ∧ (∃ x y, IsTupOf2 h TO x y) ∧ IsRangeIter h i1 (lo + (i : Nat)) ((n : Int) - (i : Nat)) 1 ∧ h.IsTupleIter i2 b i) where
  mem := by simp
  obj := fun i h st c hc => by
    obtain ⟨hz, hTI, ⟨x, y, hTO⟩, h1, ⟨o2, e2, _, d2⟩⟩ := st
    simp only [List.mem_cons, List.not_mem_nil, or_false] at hc
    rcases hc with q | q | q | q | q
    all_goals subst q
    · exact ⟨_, hz, fun v q => nomatch q⟩
    · exact ⟨_, hTI, fun v q => nomatch q⟩
    · exact ⟨_, hTO, fun v q => nomatch q⟩
    · exact ⟨_, h1, fun v q => nomatch q⟩
    · exact ⟨o2, e2, fun v q => by rw [d2] at q; cases q⟩
  keep := fun i h h' st k => by
    obtain ⟨hz, hTI, ⟨x, y, hTO⟩, h1, h2⟩ := st
    exact ⟨k z (by simp) _ hz, k TI (by simp) _ hTI, ⟨x, y, k TO (by simp) _ hTO⟩, k i1 (by simp) _ h1, h2.at fun o q => k i2 (by simp) o q⟩
  item := by
    intro X hP hw hK hc i pins s σ H E I hf st hg
    subst hP hw hK
    obtain ⟨hz, hTI, ⟨x0, y0, hTO⟩, h1, h2⟩ := st
    obtain ⟨ys, y, hqy, hy, hin⟩ := hg
    obtain ⟨its2, rv2, p2, _⟩ := I.tuple hqy
    obtain ⟨u2, hu2, ru2⟩ := rv2.get hy
    have hzl : z < s.heap.objs.size := Heap.lt_size hz
    have D1 := Draws.range (prog := X.prog) (w := X.w) (A := X.A.in1) (I.ok.hd hc) i1 lo n
    have D2 := Draws.tuple (prog := X.prog) (w := X.w) (A := X.A.in1) (I.ok.hd hc) i2 b nb its2.toArray
    have b2 : i < its2.toArray.size := by rw [List.size_toArray]; exact (List.getElem?_eq_some_iff.mp hu2).1
    refine wpAny_pyNext_zipD2_item D D1 D2 hz hTI hTO h1 ⟨h2, p2⟩ hin b2 fun v1 v2 h' tk q1 q2 z' TO' s1 s2 hT _ hk => ?_
    obtain ⟨t1, rfl⟩ := q1
    have w2 : v2 = u2 := by
      rw [show its2.toArray[i]? = some u2 by simpa using hu2] at q2
      exact (Option.some.inj q2).symm
    subst w2
    refine ⟨_, rfl, wpAny_letOwnedTupleGo_zip (s := { s with heap := h', toks := tk }) z' fun h'' z'' sb => ?_⟩
    have hT2 : h''.get? s.heap.objs.size = some { cls := .type "tuple", data := .seq #[.int (lo + (i : Nat)) t1, v2] } := (sb.2 _ (Nat.ne_of_gt hzl)).trans hT
    have new : ObjOk X.prog X.w (upd H s.heap.objs.size (.tup [.int (lo + (i : Nat)), y])) h'' s.heap.objs.size (.tup [.int (lo + (i : Nat)), y]) := ⟨by show 2 ≤ sizeLine; decide, [.int (lo + (i : Nat)) t1, v2], .cons ⟨t1, rfl⟩ (.cons ru2 .nil), ⟨_, hT2, rfl, _, rfl⟩⟩
    have far : ∀ c o, c ∉ [z, TI, TO, i1, i2] → s.heap.get? c = some o → h''.get? c = some o := fun c o hb q => by
      simp only [List.mem_cons, List.not_mem_nil, or_false, not_or] at hb
      obtain ⟨f1, f2, f3, f4, f5⟩ := hb
      exact (sb.2 c f1).trans (hk c o f1 f3 f4 f5 q)
    have I1 := Inv.turnedNew (t' := tk) (h' := h'') I far hf (Nat.le_refl _) new
    refine ⟨.ref s.heap.objs.size, _, I1, rfl, ⟨_, y, rfl, I.hok.fresh (Nat.le_refl _), rfl, ?_⟩, ⟨z'', ?_, ⟨.int (lo + (i : Nat)) t1, v2, ?_⟩, ?_, ?_⟩, fun c hcm => ?_⟩
    · intro l hl
      rw [I.tuple_inj hl hqy]
      exact hy
    · exact (sb.2 _ D.TIz).trans (hk _ _ D.TIz D.TITO D.TIi1 D.TIi2 hTI)
    · exact (sb.2 _ D.TOz).trans TO'
    · exact (sb.2 _ (Ne.symm D.zi1)).trans s1
    · exact s2.1.at fun o q => (sb.2 _ (Ne.symm D.zi2)).trans q
    · have hlt : c < s.heap.objs.size := by
        simp only [List.mem_cons, List.not_mem_nil, or_false] at hcm
        rcases hcm with q | q | q | q | q
        all_goals subst q
        · exact hzl
        · exact Heap.lt_size hTI
        · exact Heap.lt_size hTO
        · exact Heap.lt_size h1
        · exact let ⟨_, e1, _⟩ := h2; Heap.lt_size e1
      rw [upd_ne (Nat.ne_of_lt hlt)]
      exact (hf c hcm).1
  done := by
    intro X hP hw hK hc i pins s σ H E I hf st hg
    subst hP hw hK
    obtain ⟨hz, hTI, ⟨x0, y0, hTO⟩, h1, h2⟩ := st
    obtain ⟨ys, hqy, l1, l2, hend⟩ := hg
    obtain ⟨its2, rv2, p2, _⟩ := I.tuple hqy
    have e2 := rv2.length
    have D1 := Draws.range (prog := X.prog) (w := X.w) (A := X.A.in1) (I.ok.hd hc) i1 lo n
    have D2 := Draws.tuple (prog := X.prog) (w := X.w) (A := X.A.in1) (I.ok.hd hc) i2 b nb its2.toArray
    refine wpAny_pyNext_zipD2_end D D1 D2 hz hTI hTO h1 ⟨h2, p2⟩ l1 (by rw [List.size_toArray]; omega) (hend.imp id fun e => by rw [List.size_toArray]; omega) fun h' tk hk => ⟨rfl, ?_⟩
    refine I.turnedL (t' := tk) (ch := [z, TI, TO, i1, i2]) (fun c o hb q => ?_) hf
    simp only [List.mem_cons, List.not_mem_nil, or_false, not_or] at hb
    obtain ⟨f1, f2, f3, f4, f5⟩ := hb
    exact hk c o f1 f3 f4 f5 q
  self := fun A i s Q E st h => wpAny_pyIter_zip st.1 h
theorem zr_apart (m i1 i2 t2 : Nat) (h1 : i1 < m) (h3 : i2 < m) (h4 : t2 < m) (n12 : i1 ≠ i2) (a12 : i1 ≠ t2) : ZipSep2 (m + 2) m (m + 1) i1 i2 [i1] [i2, t2] := by
  have ne : ∀ a b : Nat, a < b ∨ b < a → a ≠ b := fun a b h => by omega
  have no1 : ∀ a b : Nat, a ≠ b → a ∉ [b] := fun a b h1 h => h1 (List.mem_singleton.mp h)
  have no2 : ∀ a b c : Nat, a ≠ b → a ≠ c → a ∉ [b, c] := fun a b c h1 h2 h => by
    rcases List.mem_cons.mp h with h | h
    · exact h1 h
    · exact h2 (List.mem_singleton.mp h)
  exact ⟨ne _ _ (by omega), ne _ _ (by omega), ne _ _ (by omega), ne _ _ (by omega), List.mem_cons_self, no1 _ _ (ne _ _ (by omega)), no1 _ _ (ne _ _ (by omega)), ne _ _ (by omega), List.mem_cons_self,
          no2 _ _ _ (ne _ _ (by omega)) (ne _ _ (by omega)), no2 _ _ _ (ne _ _ (by omega)) (ne _ _ (by omega)), no2 _ _ _ n12 a12, no1 _ _ (Ne.symm n12)⟩
/-- range(n) as a value -/
theorem cr_range1 {X : Cx} : CallR X (.type "range") (fun vs H Q => ∃ j, vs = [V.int j] ∧ ∀ p, H p = none → Q (.ref p) (upd H p (.rng 0 j))) := by
  intro pins s σ H xs us Q I r h
  obtain ⟨j, rfl, q⟩ := h
  obtain ⟨u, rfl, ru⟩ := r.one
  obtain ⟨t, rfl⟩ := (show ∃ t, u = Value.int j t from ru)
  refine call_range_1 ⟨.ref s.heap.objs.size, upd H s.heap.objs.size (.rng 0 j), I.laid (t' := s.toks + 1 + 1) (fun b o e => Heap.get?_push_of_some _ e) (Nat.le_refl _) ?_, rfl, q _ (I.hok.fresh (Nat.le_refl _))⟩
  exact ⟨_, _, _, Heap.get?_push_size _ rfl⟩
section
variable {X : Cx} {CX : CXT} {C g : Addr} {n : Nat} {sp : Nat → Sp} {E : XK}
def iZipR (K : PySem.W.Frag) (C : Addr) (sp : Nat → Sp) (E : XK) (ta : TA) : TI := fun σ H R => ta σ H fun vs H1 => ∃ r y lo hi, vs = [.ref r, y] ∧ H1 r = some (.rng lo hi) ∧ (-(2 ^ 62) ≤ lo ∧ lo < 2 ^ 62 ∧ -(2 ^ 62) ≤ hi ∧ hi < 2 ^ 62) ∧
  Src K C sp E y H1 fun t H2 => R (ItzR K lo (hi - lo).toNat t) H2
theorem pi_zipR {e e2 : Expr} {ta : TA} {p pos tpos : Pos} {elts : List Expr} {kk : Nat} (hi : PySem.W.findIn X.K (.ref C) "__iter__" = some (some (.ref g))) (hf : PySem.W.isFn X.K (.ref g) = true) (F : FnY X.prog X.w X.K X.mg X.base CX n g sp) (hr : Room (n + 2) X.A) (hx : Passes CX X E)
    (hg : Gl X "zip") (hm : X.mg "zip" = none) (ha : PA X [e, e2] ta) (hs : starEach [e, e2] X.env = (false, eval e X.env) :: starEach [e2] X.env := by rfl)
    (hpl : (backTo pos (starEach [e2] X.env)).any (·.1) = false := by rfl) : PI X (.Tuple elts kk tpos) (.Call (.Name "zip" p) [e, e2] [] pos) (iZipR X.K C sp E ta) := by
  refine ⟨fun pins s σ H R I h => Call_ (ld_blt I hg hm PyProof.Rows.boot_zip (PyProof.Rows.callWith_type1 (thn (ha.run pos pins s σ H _ I h) fun us s1 ⟨vs, H1, I1, r1, q1⟩ => ?_) hs hpl))⟩
  obtain ⟨r, y, lo, hi', ex, hrg, ⟨b1, b2, b3, b4⟩, q⟩ := q1
  subst ex
  cases r1 with
  | cons r0 rr =>
    cases rr with
    | cons r' rr =>
      cases rr
      cases r0
      obtain ⟨t, u, v, ho⟩ := (show ∃ t u v, s1.heap.get? r = some { cls := .type "range", data := .fields #[.int lo t, .int hi' u, .int 1 v] } from I1.hok r _ hrg)
      refine zg_call ?_
      refine wpAny_pyIter_range (a := lo) (b := hi') (c := 1) ho (small_one b1 b2 b3 b4) ?_
      have sz1 : s1.heap.objs.size = s1.heap.objs.size := rfl
      generalize hit1 : s1.heap.objs.size = it1 at *
      have I2 : Inv X pins σ H1 { s1 with heap := s1.heap.push { cls := .type "range_iterator", data := .fields #[rawInt lo, rawInt (Builtin.Range.rangeSize lo hi' 1), rawInt 1] } } := I1.kept (t' := s1.toks) fun b o e => Heap.get?_push_of_some _ e
      have fp1 : FpOk X pins H1 it1 := I1.fpOk (Nat.le_of_eq hit1) (I1.hok.fresh (Nat.le_of_eq hit1))
      have st1 : IsRangeIter (s1.heap.push { cls := .type "range_iterator", data := .fields #[rawInt lo, rawInt (Builtin.Range.rangeSize lo hi' 1), rawInt 1] }) it1 lo (Builtin.Range.rangeSize lo hi' 1) 1 := by
        rw [← hit1]
        exact Heap.get?_push_size _ rfl
      have I2p := I2.pinned (fp := [it1]) (fun b hb => by rw [List.mem_singleton.mp hb]; exact fp1) (fun b hb => by
        rw [List.mem_singleton.mp hb]
        exact ⟨_, st1, fun v z => nomatch z⟩)
      refine src_it (A := X.A.in1.in1) hi hf F hr.in1.in1 rfl hx I2p r' q fun t2 it2 H3 s3 zs2 I3p st2 fp2 hm2 sq2 q3 => ?_
      intro h' hz hTI hTO hsz hk
      have I3 := I3p.unpinned
      have pin1 := I3p.pin (it1, _) (List.mem_append_right _ (List.mem_append_right _ (mem_pinsAt (List.mem_singleton.mpr rfl) st1)))
      have st1' : IsRangeIter s3.heap it1 lo (Builtin.Range.rangeSize lo hi' 1) 1 := pin1.1
      have f1 : FpOk X pins H3 it1 := ⟨pin1.2.1, fp1.2⟩
      have f2 : FpOk X pins H3 it2 := ⟨fp2.1, fp2.2.1, fp2.2.2.1, fp2.2.2.2.1, fp2.2.2.2.2.1, fun p hp => fp2.2.2.2.2.2 p (by
        rcases List.mem_append.mp hp with z | z
        · exact List.mem_append_left _ z
        · exact List.mem_append_right _ (List.mem_append_left _ z))⟩
      obtain ⟨its2, rv2, pl2, _⟩ := I3.tuple sq2
      have pl2 : s3.heap.IsTuple t2 its2.toArray := pl2
      obtain ⟨ot2, et2, ct2, _⟩ := id pl2
      obtain ⟨o2, e2', c2, d2⟩ := id st2
      have l1 : it1 < s3.heap.objs.size := Heap.lt_size st1'
      have l2 : it2 < s3.heap.objs.size := Heap.lt_size e2'
      have k2 : t2 < s3.heap.objs.size := Heap.lt_size et2
      have ncls : ∀ {a b : Addr} {oa ob : Obj} {x y : String}, s3.heap.get? a = some oa → s3.heap.get? b = some ob → oa.cls = .type x → ob.cls = .type y → x ≠ y → a ≠ b := fun ha hb h1 h2 n z => by
        rw [z, hb] at ha
        cases ha
        rw [h1] at h2
        cases h2
        exact n rfl
      have n12 : it1 ≠ it2 := ncls st1' e2' rfl c2 (by decide)
      have a12 : it1 ≠ t2 := ncls st1' et2 rfl ct2 (by decide)
      have a22 : t2 ≠ it2 := ncls et2 e2' ct2 c2 (by decide)
      generalize hn : s3.heap.objs.size = m at *
      have Z := zr_apart m it1 it2 t2 l1 l2 k2 n12 a12
      refine wpAny_pyIter_zip hz ?_
      have I4 : Inv X pins σ H3 { s3 with heap := h' } := I3.kept (t' := s3.toks) hk
      have rs : Builtin.Range.rangeSize lo hi' 1 = (((hi' - lo).toNat : Nat) : Int) := by rw [rangeSize_one]; omega
      refine ⟨m + 2, [m + 2, m, m + 1, it1, it2], _, _, H3, rfl, I4, zr_turn (lo := lo) (n := (hi' - lo).toNat) Z a22, ⟨hz, hTI, ⟨_, _, hTO⟩, ?_, st2.at fun o e => hk _ o e⟩, fun c hcm => ?_, q3⟩
      · have := hk _ _ st1'
        rw [rs] at this
        simpa using this
      · simp only [List.mem_cons, List.not_mem_nil, or_false] at hcm
        have hle : m ≤ c → FpOk X pins H3 c := fun h => I3.fpOk (by rw [hn]; exact h) (I3.hok.fresh (by rw [hn]; exact h))
        rcases hcm with z | z | z | z | z
        · exact hle (by rw [z]; exact Nat.le_add_right _ _)
        · exact hle (by rw [z]; exact Nat.le_refl _)
        · exact hle (by rw [z]; exact Nat.le_add_right _ _)
        · rw [z]; exact f1
        · rw [z]; exact f2
theorem walk_zipR {K : PySem.W.Frag} {lo : Int} {n m : Nat} {b : Addr} {ys : List V} (hm : m = min n ys.length) : Walk (ItzR K lo n b) m (fun H => SqT K H b ys) (YPair (fun i => some (.int (lo + (i : Nat)))) (fun i => ys[i]?)) := by
  subst hm
  refine ⟨fun i _ hi q => ⟨ys, ys[i]'(by omega), q, List.getElem?_eq_getElem _, by omega⟩, fun _ q => ⟨ys, q, by omega, by omega, by omega⟩, fun i H v H' _ q y => ?_⟩
  obtain ⟨T, z, h1, h2, h3, h5⟩ := y
  exact ⟨T, _, z, h1, h2, h3, rfl, h5 ys q⟩
end
end Sl

set_option Elab.async false
set_option linter.all false
set_option maxRecDepth 100000
set_option maxHeartbeats 400000
/-! ## graph[i], iter(graph), graph == value, str(graph) -/
namespace Sl
open PySem PySem.Spec PyProof.Rows L2
abbrev sGItem : Stmt := inClass (topT 31) 13
abbrev sGIter : Stmt := inClass (topT 31) 14
abbrev sGEq : Stmt := inClass (topT 31) 16
abbrev sGStr : Stmt := inClass (topT 31) 17
theorem scGItem : FnScope ["self", "node"] ["self", "node"] (defScope sGItem) := ⟨rfl, rfl, rfl, by decide +kernel, rfl, by decide +kernel, by decide +kernel⟩
theorem scGIter : FnScope ["self"] ["self"] (defScope sGIter) := ⟨rfl, rfl, rfl, by decide +kernel, rfl, by decide +kernel, by decide +kernel⟩
theorem scGEq : FnScope ["self", "other"] ["self", "other"] (defScope sGEq) := ⟨rfl, rfl, rfl, by decide +kernel, rfl, by decide +kernel, by decide +kernel⟩
theorem scGStr : FnScope ["self"] ["self"] (defScope sGStr) := ⟨rfl, rfl, rfl, by decide +kernel, rfl, by decide +kernel, by decide +kernel⟩
instance gnDec : DecidableEq GN
  | .W x cs, .W y ds => if h1 : x = y then if h2 : cs = ds then .isTrue (by rw [h1, h2]) else .isFalse (fun h => h2 (GN.W.inj h).2) else .isFalse (fun h => h1 (GN.W.inj h).1)
  | .F c, .F d => if h : c = d then .isTrue (by rw [h]) else .isFalse (fun z => h (GN.F.inj z))
  | .V c, .V d => if h : c = d then .isTrue (by rw [h]) else .isFalse (fun z => h (GN.V.inj z))
  | .W _ _, .F _ => .isFalse (fun h => nomatch h)
  | .W _ _, .V _ => .isFalse (fun h => nomatch h)
  | .F _, .W _ _ => .isFalse (fun h => nomatch h)
  | .F _, .V _ => .isFalse (fun h => nomatch h)
  | .V _, .W _ _ => .isFalse (fun h => nomatch h)
  | .V _, .F _ => .isFalse (fun h => nomatch h)
/-! ### nodes compared -/
theorem str_eqv (x y : Str) : PyData.eqv (.str x) (.str y) = decide (x = y) := by
  rw [PyData.eqv]
  by_cases e : x = y <;> simp [e]
theorem ndP_eqv (g h : GN) : PyData.eqv (ndP g) (ndP h) = decide (g = h) := by
  have n1 : ¬ ("word" : Str) = "fun" := by decide +kernel
  have n2 : ¬ ("word" : Str) = "var" := by decide +kernel
  have n3 : ¬ ("fun" : Str) = "word" := by decide +kernel
  have n4 : ¬ ("fun" : Str) = "var" := by decide +kernel
  have n5 : ¬ ("var" : Str) = "word" := by decide +kernel
  have n6 : ¬ ("var" : Str) = "fun" := by decide +kernel
  have i : ∀ a b : Nat, PyData.eqv (.int (a : Nat)) (.int (b : Nat)) = decide (a = b) := fun a b => by
    rw [PyData.eqv]
    by_cases e : a = b
    · subst e; simp
    · have : ¬ ((a : Nat) : Int) = ((b : Nat) : Int) := fun z => e (Int.ofNat.inj z)
      simp [e, this]
  cases g with
  | W x cs =>
    cases h with
    | W y ds =>
      show PyData.eqv (.tuple [.str "word", .str x, .tuple (cs.map fun i => .int (i : Nat))]) (.tuple [.str "word", .str y, .tuple (ds.map fun i => .int (i : Nat))]) = _
      rw [PyData.eqv, PyData.eqvAll, PyData.eqvAll, PyData.eqvAll, str_eqv, str_eqv, PyData.eqv, eqv_ints, PyData.eqvAll, decide_eq_true rfl]
      by_cases e1 : x = y <;> by_cases e2 : cs = ds <;> simp [e1, e2]
    | F c => simp [ndP, PyData.eqv, PyData.eqvAll, n1]
    | V f => simp [ndP, PyData.eqv, PyData.eqvAll, n2]
  | F c =>
    cases h with
    | W y ds => simp [ndP, PyData.eqv, PyData.eqvAll, n3]
    | F d =>
      show PyData.eqv (.tuple [.str "fun", .int (c : Nat)]) (.tuple [.str "fun", .int (d : Nat)]) = _
      rw [PyData.eqv, PyData.eqvAll, PyData.eqvAll, str_eqv, i, PyData.eqvAll, decide_eq_true rfl]
      by_cases e : c = d <;> simp [e]
    | V f => simp [ndP, PyData.eqv, PyData.eqvAll, n4]
  | V f =>
    cases h with
    | W y ds => simp [ndP, PyData.eqv, PyData.eqvAll, n5]
    | F d => simp [ndP, PyData.eqv, PyData.eqvAll, n6]
    | V d =>
      show PyData.eqv (.tuple [.str "var", .int (f : Nat)]) (.tuple [.str "var", .int (d : Nat)]) = _
      rw [PyData.eqv, PyData.eqvAll, PyData.eqvAll, str_eqv, i, PyData.eqvAll, decide_eq_true rfl]
      by_cases e : f = d <;> simp [e]
theorem nds_eqv : ∀ a b : List GN, PyData.eqvAll (a.map ndP) (b.map ndP) = decide (a = b)
  | [], [] => by simp [PyData.eqvAll]
  | [], _ :: _ => by simp [PyData.eqvAll]
  | _ :: _, [] => by simp [PyData.eqvAll]
  | x :: a, y :: b => by
    rw [List.map_cons, List.map_cons, PyData.eqvAll, nds_eqv a b, ndP_eqv]
    by_cases e : x = y <;> by_cases e2 : a = b <;> simp [e, e2]
theorem nds_teqv (a b : List GN) : PyData.eqv (.tuple (a.map ndP)) (.tuple (b.map ndP)) = decide (a = b) := by rw [PyData.eqv, nds_eqv]
theorem nds_leqv (a b : List GN) : PyData.eqv (.list (a.map ndP)) (.list (b.map ndP)) = decide (a = b) := by rw [PyData.eqv, nds_eqv]
section
variable {P : Program} {w : World} {K : PySem.W.Frag} {mg : Str → Option Value} {base : Heap} {C : Addr} {fWh fBe fNm fKd fWk fRw fPo fNd fAn : Addr} {dWh dBe dNm dKd dWk dRw dPo dNd dAn : FuncData}
variable {fC fCb fB : Addr} {dC dCb dB : FuncData}
def spGItem (K : PySem.W.Frag) (C : Addr) : Sp := fun vs H Q _ => ∃ (x : Addr) (i : Nat) (ns : List GN) (R S : List (List Nat)), vs = [.ref x, .int (i : Nat)] ∧ GrAt K C H x ns R S ∧ i < ns.length ∧ ∀ v, Rdd K H v (ndD (nAt ns i)) → Q v H
theorem ok_gItem (N : Gn K mg fWh fBe fNm fKd fWk fRw fPo fNd fAn dWh dBe dNm dKd dWk dRw dPo dNd dAn) (Bi' : Bi mg) (B : Bt mg) (L : Gr K mg C) (M : Mc K mg C fC fCb fB dC dCb dB) {f : Addr} {fd : FuncData} (F : Fun K "__getitem__" "Graph.__getitem__" sGItem f fd) : FnOk P w K mg base CX0 5 f fd ["self", "node"] (spGItem K C) := by
  have GC : FnOk P w K mg base CX0 4 fC dC ["self", "node"] (spGCheck K C) := ok_gCheck N Bi' B L M.Ck.F M.FCb M.bCb M.gCb
  refine F.ok scGItem (fun vs H Q E h => ?_) (fun cdv A outer s H vs Q E hr h => ?_)
  · obtain ⟨x, i, ns, R, S, rfl, _⟩ := h
    rfl
  · obtain ⟨x, i, ns, R, S, rfl, gr, hi, q⟩ := h
    obtain ⟨dx, pR, pS, vN, hx, rv, aR, aS⟩ := gr.ex
    have nm : ∀ {m : Str}, ¬ m = "_scopes" → ¬ m = "_needs" → ¬ m = "_nodes" → (grF vN pR pS).lookup m = none := fun h1 h2 h3 => gr_no h1 h2 h3
    refine ⟨_, (pss_cons (ps_expr (pe_meth (pv 0) L.cl M.Ck.M GC hr M.Ck.b .nil pass0 (pa_cons (pv 1) pa_nil)))
        (pss_one (ps_ret (pe_ix ix_tup (pe_fld (pv 0) rfl) (pv 1) (fun _ _ => rfl))))), ?_⟩
    obtain ⟨b0, us, rfl, hsu, hxu, _⟩ := id rv.tupd'
    obtain ⟨y, hy, ry⟩ := hxu.at (i := i) (d := ndD (nAt ns i)) (by rw [List.getElem?_map, nAt_get hi]; rfl)
    refine ⟨_, rfl, x, dx, _, rfl, hx, nm (by decide +kernel) (by decide +kernel) (by decide +kernel), _, rfl, x, i, ns, R, S, rfl, gr, hi, ?_⟩
    exact ⟨_, rfl, x, C, dx, _, _, rfl, hx, L.cl, L.nN, gr_N, _, rfl, b0, us, ((i : Nat) : Int), y, rfl, rfl, hsu, atI_nat hy, q y ry⟩
def spGIter (K : PySem.W.Frag) (C : Addr) : Nat → Sp := fun n vs H Q _ => ∃ (x : Addr) (ns : List GN) (R S : List (List Nat)), vs = [.ref x] ∧ GrAt K C H x ns R S ∧ ∀ t us it, SqT K H t us → RddAll K H us (ns.map ndD) → H it = none → n ≤ it → Q (.ref it) (upd H it (ItT t it 0))
theorem ok_gIter (hI : mg "iter" = none) (L : Gr K mg C) {f : Addr} {fd : FuncData} (F : Fun K "__iter__" "Graph.__iter__" sGIter f fd) (b : Binds K fd ["self"] []) : FnY P w K mg base (L2.CX P w) 1 f (spGIter K C) := by
  refine okY F scGIter b (fun n vs H Q E h => ?_) (fun cdv A outer s H vs Q E hr h => ?_)
  · obtain ⟨x, ns, R, S, rfl, _⟩ := h
    rfl
  · obtain ⟨x, ns, R, S, rfl, gr, q⟩ := h
    obtain ⟨dx, pR, pS, vN, hx, rv, aR, aS⟩ := gr.ex
    refine ⟨_, (pss_one (ps_ret (pe_callB call_iterT (by rfl) hI (by decide +kernel) (pa_cons (pe_fld (pv 0) rfl) pa_nil)))), ?_⟩
    obtain ⟨b0, us, rfl, hsu, hxu, _⟩ := id rv.tupd'
    exact ⟨_, rfl, x, C, dx, _, _, rfl, hx, L.cl, L.nN, gr_N, b0, us, rfl, hsu, fun it hn hm => q b0 us it hsu hxu hn hm⟩
/-- what follows an own iteration -/
theorem gr_spIt {H : Hp} {x : Addr} {ns : List GN} {R S : List (List Nat)} {W : Addr → Hp → Prop} (gr : GrAt K C H x ns R S) (h : ∀ t us, SqT K H t us → RddAll K H us (ns.map ndD) → W t H) : spIt K (spGIter K C) E0 x H W := fun m => by
  refine ⟨x, ns, R, S, rfl, gr, fun t us it hs hu hn hm => ⟨t, it, us, rfl, upd_same, hm, ?_, ?_⟩⟩
  · rw [ItX.dropH_upd hn]; exact hs
  · rw [ItX.dropH_upd hn]; exact h t us hs hu
def spGEqT (K : PySem.W.Frag) (C : Addr) : Sp := fun vs H Q _ => ∃ (x : Addr) (y : V) (ns : List GN) (R S : List (List Nat)), vs = [.ref x, y] ∧ GrAt K C H x ns R S ∧ (∀ g ∈ ns, Rng ns.length g) ∧
  ((∃ (o : Addr) (ms : List GN) (R' S' : List (List Nat)), y = .ref o ∧ GrAt K C H o ms R' S' ∧ (∀ g ∈ ms, Rng ms.length g) ∧ Q (.bl (decide (ns = ms))) H) ∨ ∃ t, TyX K H y t ∧ PySem.W.kitOne K t (.ref C) = some false ∧ Q (.bl false) H)
theorem ok_gEqT (B : Bt mg) (L : Gr K mg C) (Ic : C8.InsC K C) {f : Addr} {fd : FuncData} (F : Fun K "__eq__" "Graph.__eq__" sGEq f fd) : FnOk P w K mg base CX0 1 f fd ["self", "other"] (spGEqT K C) := by
  refine F.ok scGEq (fun vs H Q E h => ?_) (fun cdv A outer s H vs Q E hr h => ?_)
  · obtain ⟨x, y, ns, R, S, rfl, _⟩ := h
    rfl
  · obtain ⟨x, y, ns, R, S, rfl, gr, hg, q⟩ := h
    obtain ⟨dx, pR, pS, vN, hx, rv, _⟩ := gr.ex
    refine ⟨_, (pss_one (ps_ret (pe_and (pe_callB call_isi (by rfl) B.isi (by decide +kernel) (pa_cons (pv 1) (pa_cons (pe_glob (v := .ref C) (by rfl) L.mgC rfl) pa_nil))) (pe_one (pe_cmpR (op_eqD hr.units) (pe_fld (pv 0) rfl) (pe_fld (pv 1) rfl) (nomark _)))))), ?_⟩
    rcases q with ⟨o, ms, R', S', rfl, gr', hg', q⟩ | ⟨t, ty, kt, q⟩
    · obtain ⟨dy, pR', pS', vN', hy, rv', _⟩ := gr'.ex
      have ⟨t1, t2⟩ := nds_tup hg
      have ⟨t1', t2'⟩ := nds_tup hg'
      refine ⟨_, rfl, .ref o, .ref C, .ref C, .ref C, true, rfl, .own C, .base (.ins hy Ic.cl Ic.ha Ic.hn Ic.htk Ic.hm), Ic.me, true, rfl, iteT ?_⟩
      refine ⟨_, rfl, x, C, dx, _, _, rfl, hx, L.cl, L.nN, gr_N, _, rfl, o, C, dy, _, _, rfl, hy, L.cl, L.nN, gr_N, .tuple (ns.map ndP), .tuple (ms.map ndP), nds_tdp rv, nds_tdp rv', t1, t1', ?_⟩
      rw [nds_teqv]
      exact q
    · exact ⟨_, rfl, y, .ref C, t, .ref C, false, rfl, .own C, ty, kt, false, rfl, iteF q⟩
/-- what str gives -/
def grTxt (n m : Nat) : Str := (Str.ofString "graph of " ++ Str.ofString (toString ((n : Nat) : Int)) ++ Str.ofString " nodes, ") ++ Str.ofString (toString ((m : Nat) : Int)) ++ Str.ofString " functions"
def spGStr (K : PySem.W.Frag) (C : Addr) : Sp := fun vs H Q _ => ∃ (x : Addr) (ns : List GN) (R S : List (List Nat)), vs = [.ref x] ∧ GrAt K C H x ns R S ∧ ns.length ≤ 4000 ∧ ∀ H', Same H H' → Q (.str (grTxt ns.length (fnsG ns).length)) H'
theorem txt_short {n : Nat} (h : n ≤ 4000) : (Str.ofString (toString ((n : Nat) : Int))).length ≤ 10 :=
  toString_length_le (by omega) (by decide) (by omega)
theorem ok_gStr (B : Bt mg) (L : Gr K mg C) (Fu : Up P w K mg base C "functions" 1 (spGFuns K C)) {f : Addr} {fd : FuncData} (F : Fun K "__str__" "Graph.__str__" sGStr f fd) : FnOk P w K mg base CX0 3 f fd ["self"] (spGStr K C) := by
  refine F.ok scGStr (fun vs H Q E h => ?_) (fun cdv A outer s H vs Q E hr h => ?_)
  · obtain ⟨x, ns, R, S, rfl, _⟩ := h
    rfl
  · obtain ⟨x, ns, R, S, rfl, gr, hn, q⟩ := h
    obtain ⟨dx, pR, pS, vN, hx, rv, aR, aS⟩ := gr.ex
    refine ⟨_, (pss_one (ps_ret (pe_joined (.cons pe_str (.cons (pe_fmt (pe_callB call_len_seq (by rfl) B.len PySem.boot_len (pa_cons (pe_fld (pv 0) rfl) pa_nil))) (.cons pe_str (.cons (pe_fmt (pe_callB call_len_seq (by rfl) B.len PySem.boot_len (pa_cons (pe_prop (pv 0) L.cl Fu.M Fu.G hr Fu.b .nil pass0 rfl) pa_nil))) (.cons pe_str .nil)))))))), ?_⟩
    obtain ⟨b0, us, rfl, hsu, hxu, _⟩ := id rv.tupd'
    have lu : us.length = ns.length := by rw [hxu.length, List.length_map]
    have sl := sizeLine_eq
    have big : ∀ {n : Nat}, n ≤ 4000 → (((n : Nat) : Int)).natAbs.log2 < 1920 := fun {n} h => by
      have : n.log2 ≤ n := Nat.log2_le_self n
      show n.log2 < 1920
      by_cases e : n = 0
      · subst e; decide
      · exact (Nat.log2_lt e).mpr (Nat.lt_of_le_of_lt h (by decide +kernel))
    have lf : (fnsG ns).length ≤ ns.length := by
      have := List.length_filter_le (fun i => (nAt ns i).isF) (List.range ns.length)
      rwa [List.length_range] at this
    have la : ∀ a b : Str, (a ++ b).length = a.length + b.length := fun a b => Str.length_append a b
    have l1 := txt_short hn
    have l2 := txt_short (Nat.le_trans lf hn)
    have k1 : (Str.ofString "graph of ").length ≤ 20 := by decide +kernel
    have k2 : (Str.ofString " nodes, ").length ≤ 20 := by decide +kernel
    have k3 : (Str.ofString " functions").length ≤ 20 := by decide +kernel
    have k0 : Str.empty.length = 0 := by decide +kernel
    refine ⟨_, rfl, by rw [la, k0]; omega, ?_⟩
    refine ⟨_, rfl, x, C, dx, _, _, rfl, hx, L.cl, L.nN, gr_N, b0, us, rfl, .inr hsu, .inr ⟨_, rfl, by rw [lu]; exact big hn, _, rfl, by rw [la, la, k0, lu]; omega, ?_⟩⟩
    rw [lu]
    refine ⟨_, rfl, by rw [la, la, la, k0]; omega, ?_⟩
    refine ⟨_, rfl, x, dx, _, rfl, hx, x, ns, R, S, rfl, gr, hn, fun p H' s' np hp => ?_⟩
    have lil : (iL (fnsG ns)).length = (fnsG ns).length := List.length_map ..
    refine ⟨p, _, rfl, .inr (SqT.of hp), .inr ⟨_, rfl, by rw [lil]; exact big (Nat.le_trans lf hn), _, rfl, by rw [la, la, la, la, k0, lil]; omega, ?_⟩⟩
    rw [lil]
    refine ⟨_, rfl, by rw [la, la, la, la, la, k0]; omega, ?_⟩
    have e : Str.empty ++ Str.ofString "graph of " ++ Str.ofString (toString ((ns.length : Nat) : Int)) ++ Str.ofString " nodes, " ++ Str.ofString (toString (((fnsG ns).length : Nat) : Int)) ++ Str.ofString " functions" = grTxt ns.length (fnsG ns).length := by
      unfold grTxt
      rw [show Str.empty ++ Str.ofString "graph of " = Str.ofString "graph of " by decide +kernel]
    have q' := q _ s'
    rw [← e] at q'
    exact q'
end
end Sl

set_option Elab.async false
set_option linter.all false
set_option maxRecDepth 100000
set_option maxHeartbeats 3200000
/-! ## set(xs), xs a list of ints, as a set that can be sorted -/
namespace Sl
open PySem PySem.Spec PyProof.Rows L2 PySem.W
abbrev setNew (w : World) : Obj := { cls := .type "set", dict := none, data := .set #[] 0 (.fresh 0 0 (!w.params.followText "set-order")) }
/-- the set of ns stands at a, all that stood in h stays -/
def SetIn (w : World) (h : Heap) (a : Addr) (ns : List Int) (s0 : Shared) (s' : Shared) : Prop :=
  ∃ h' tk c, s' = { s0 with heap := h', toks := tk } ∧ SetR w h' a (fun j => decide (j ∈ ns)) c ∧ c ≤ ns.length ∧ ∀ b o, h.get? b = some o → h'.get? b = some o
section
variable {P : Program} {w : World} {A : Around} {E : Value → Shared → Prop} {s : Shared}
theorem init_ints {l : Addr} {items : Array Value} (ns : List Int) (hh : A.handled = none) (hl : s.heap.IsList l items) (hit : IntsAre items.toList ns) (hb : ns.length + 1 < scanBound) :
    codeAny (model P w) A (.call (.builtin "set.__init__") ⟨[.ref s.heap.objs.size, .ref l], []⟩) (wants (fun r s' => r = .none ∧ SetIn w s.heap s.heap.objs.size ns s s') E) { s with heap := s.heap.push (setNew w) } := by
  have hisz : items.size = ns.length := by
    have q := IntsAre.length hit
    rwa [Array.length_toList] at q
  have hS : (s.heap.push (setNew w)).get? s.heap.objs.size = some (setNew w) := Heap.get?_push_size _ rfl
  have hT : Shared.TypeIs { s with heap := s.heap.push (setNew w) } (.ref s.heap.objs.size) "set" := ⟨_, hS, rfl⟩
  have hl1 : (s.heap.push (setNew w)).IsList l items := hl.push _
  have hlS : l < s.heap.objs.size := by
    obtain ⟨o, ho, _⟩ := hl
    exact Heap.lt_size ho
  have z1 : (s.heap.push (setNew w)).objs.size = s.heap.objs.size + 1 := Heap.size_push ..
  refine codeAny_call_builtin F.called_set.init.plain F.entry_set_init (check_set_init_1 hT ?_)
  obtain ⟨⟨ocls, odict, odata, oslots⟩, hol, hcl, nl, hdl⟩ := hl
  simp only at hcl hdl
  subst hcl hdl
  have hol' : (s.heap.push (setNew w)).get? l = some { cls := .type "list", dict := odict, data := .seq items nl, slots := oslots } := Heap.get?_push_of_some _ hol
  have hsls := F.sub_list_set
  have hslf := F.sub_list_frozenset
  have hne : (Value.type "list" == Value.type "dict") = false := by decide
  unfold Builtin.«set.__init__» noKeywords Builtin.Frozenset.updateFrom
  generalize hPI : pyIter = PI
  wp_walk
  subst hPI
  refine wpAny_pyIter_list hl1 ?_
  refine wpAny_bind (wpAny_runValue ?_)
  have hh3 : A.in1.in1.handled = none := by simp [hh]
  have fresh : s.heap.objs.size ∉ [(s.heap.push (setNew w)).objs.size, l] := by
    rw [z1]
    simp only [List.mem_cons, List.not_mem_nil, or_false, not_or]
    exact ⟨Nat.ne_of_lt (Nat.lt_succ_self _), Nat.ne_of_gt hlS⟩
  have hneI : l ≠ (s.heap.push (setNew w)).objs.size := by
    rw [z1]
    exact Nat.ne_of_lt (Nat.lt_succ_of_lt hlS)
  refine set_update_ints ((Walks.list hh3 _ l hneI items).toS) s.heap.objs.size fresh ns hisz hb ?hv (items.size - 0) 0 _ (by omega) (Nat.zero_le _) ⟨⟨_, Heap.get?_push_size _ rfl, rfl, rfl⟩, hl1.push _⟩ ?hS0 ?hR
  case hS0 => exact ⟨0, Nat.le_refl 0, setR_new_at (Heap.get?_push_of_some _ hS)⟩
  case hv =>
    intro i v hv
    have hi : i < ns.length := by rw [← hisz]; exact (Array.getElem?_eq_some_iff.mp hv).1
    obtain ⟨t, e⟩ := IntsAre.int_at hit i v (by rw [Array.getElem?_toList]; exact hv)
    exact ⟨ns[i], t, List.getElem?_eq_getElem hi, by rw [e, List.getD_eq_getElem?_getD, List.getElem?_eq_getElem hi] <;> rfl⟩
  case hR =>
    intro s' c hm hc hS'
    obtain ⟨h', g2, d', tk', os'⟩ := s'
    have eg : g2 = s.gens := hm.gens
    have ed : d' = s.drawn := hm.drawn
    have eo : os' = s.os := hm.os
    subst eg ed eo
    refine wpAny_pure (wpAny_pure ⟨rfl, h', tk', c, rfl, hS', by rw [← hisz]; exact hc, fun b o e => ?_⟩)
    have hb0 : b < s.heap.objs.size := Heap.lt_size e
    exact hm.heap b o (by
      rw [z1]
      simp only [List.mem_cons, List.not_mem_nil, or_false, not_or]
      exact ⟨Nat.ne_of_lt hb0, Nat.ne_of_lt (Nat.lt_succ_of_lt hb0)⟩) (Heap.get?_push_of_some _ (Heap.get?_push_of_some _ e))
theorem call_set_ints {l : Addr} {items : Array Value} (ns : List Int) {Q : Value → Shared → Prop} (hh : A.handled = none) (hl : s.heap.IsList l items) (hit : IntsAre items.toList ns) (hb : ns.length + 1 < scanBound)
    (h : ∀ s', SetIn w s.heap s.heap.objs.size ns s s' → Q (.ref s.heap.objs.size) s') : wpAny (model P w) A (call (.type "set") [.ref l]) Q E s := by
  obtain ⟨c, tl, hmro⟩ := F.called_set.mro
  have hmade := F.called_set.made
  have hsub := F.called_set.sub
  have h1 := F.called_set.notType
  have h2 := F.called_set.canCreate
  have hct := F.typeCall_set_1 (.ref l)
  have hli := F.called_set.init.lookup
  have hbi := F.called_set.init.bind (.ref s.heap.objs.size)
  have hS : (s.heap.push (setNew w)).get? s.heap.objs.size = some (setNew w) := Heap.get?_push_size _ rfl
  have hT : Shared.TypeIs { s with heap := s.heap.push (setNew w) } (.ref s.heap.objs.size) "set" := ⟨_, hS, rfl⟩
  refine wpAny_call (codeAny_of_tree (wpAny_pure ⟨Code.quiet_builtin _ (by decide +kernel), codeAny_builtin F.entry_type_call ?_⟩))
  rw [Around.under_plain (weight_type_call_type "set" [.ref l] []) rfl]
  repeat (any_goals (first | assumption | wp_step))

  refine codeAny_mono (code_set_led1 (.ref l) (E := E) (Q₁ := fun r s' => r = .ref s.heap.objs.size ∧ s' = { s with heap := s.heap.push (setNew w) }) ⟨rfl, rfl⟩) fun r s₁ hr => ?_
  cases r with
  | error e => exact hr
  | ok fl =>
    cases fl with
    | ret obj =>
      obtain ⟨rfl, rfl⟩ := hr
      repeat (any_goals (first | assumption | wp_step))

      refine codeAny_mono (init_ints (E := E) ns (by simp [hh]) hl hit hb) fun r₂ s₂ hr₂ => ?_
      cases r₂ with
      | error e => exact hr₂
      | ok fl₂ =>
        cases fl₂ with
        | ret r =>
          obtain ⟨rfl, h'⟩ := hr₂
          repeat (any_goals (first | assumption | wp_step))
          exact h _ h'
        | _ => exact hr₂.elim
    | _ => exact hr.elim
end
/-- set(e), e a list of ints -/
def rSetInts (K : Frag) (w : World) : List V → Hp → VK → Prop := fun vs H Q => ∃ (l : Addr) (ns : List Int), vs = [V.ref l] ∧ SqL K H l (ns.map V.int) ∧ ns.length ≤ 4000 ∧ ∀ p c, (∀ m : List Int, (∀ k ∈ ns, k ∈ m) → c ≤ m.length) → H p = none → Q (.ref p) (upd H p (SetO w p (fun j => decide (j ∈ ns)) c))
theorem cr_setInts {X : Cx} (hc : X.calm = true) : CallR X (.type "set") (rSetInts X.K X.w) := by
  intro pins s σ H vs us Q I r h
  obtain ⟨l, ns, rfl, hq, hz, q⟩ := h
  rw [Vals.ref1 r]
  obtain ⟨its, rv, pl, _⟩ := I.list hq
  refine call_set_ints ns (I.ok.hd hc) pl.isList (by simpa using RZ.intsAre_vals rv) (by unfold scanBound; omega) fun s' ⟨h', tk, c, e, R, hcn, k⟩ => ?_
  subst e
  have n := I.hok.fresh (Nat.le_refl s.heap.objs.size)
  have few : ∀ m : List Int, (∀ k ∈ ns, k ∈ m) → c ≤ m.length := fun m hm => by
    obtain ⟨o, es, ep, t, _, _, _, _, nd, mem, _, _, sz, _⟩ := R
    have := nd_len nd fun k hk => hm k (of_decide_eq_true ((mem k).mpr hk))
    rw [List.length_map, Array.length_toList] at this
    omega
  refine ⟨.ref s.heap.objs.size, upd H s.heap.objs.size (SetO X.w s.heap.objs.size (fun j => decide (j ∈ ns)) c), I.laid (t' := tk) k (Nat.le_refl _) (setO_new R), rfl, q _ c few n⟩
end Sl

set_option Elab.async false
set_option linter.all false
set_option maxRecDepth 100000
set_option maxHeartbeats 400000
/-! ## _law_below -/
namespace Sl
open PySem PySem.Spec PyProof.Rows L2
abbrev sLBelow : Stmt := topT 48
theorem scLBelow : FnScope ["_law_node"] ["_law_node"] (defScope sLBelow) := ⟨rfl, rfl, rfl, by decide +kernel, rfl, by decide +kernel, by decide +kernel⟩
section
variable {P : Program} {w : World} {K : PySem.W.Frag} {mg : Str → Option Value} {base : Heap}
def spLBelow (K : PySem.W.Frag) : Sp := fun vs H Q _ => ∃ (v : V) (g : GN), vs = [v] ∧ Rdd K H v (ndD g) ∧ ∀ p H', Same H H' → H p = none → H' p = some (.lst (iL (gk g))) → Q (.ref p) H'
theorem ok_lBelow {f : Addr} {fd : FuncData} (F : Fun K "_law_below" "_law_below" sLBelow f fd) (B : Bt mg) : FnOk P w K mg base CX0 1 f fd ["_law_node"] (spLBelow K) := by
  refine F.ok scLBelow (fun vs H Q E h => ?_) (fun cdv A outer s H vs Q E hr h => ?_)
  · obtain ⟨v, g, rfl, _⟩ := h
    rfl
  · obtain ⟨v, g, rfl, hv, q⟩ := h
    have sl := sizeLine_eq
    --D
    refine ⟨_, (pss_cons (ps_if (pt_cmpR op_eq (pe_ix ix_tup (pv 0) pe_int (fun _ _ => rfl)) pe_str (nomark _))
          (pss_one (ps_ret (pe_callTy call_list_of (by rfl) B.list (by decide +kernel) (pa_cons (pe_ix ix_tup (pv 0) pe_int (fun _ _ => rfl)) pa_nil)))) pss_nil)
        (pss_one (ps_ret (pe_ifExp (pt_cmpR op_eq (pe_ix ix_tup (pv 0) pe_int (fun _ _ => rfl)) pe_str (nomark _)) (pe_lst (pa_cons (pe_ix ix_tup (pv 0) pe_int (fun _ _ => rfl)) pa_nil)) (pe_lst pa_nil))))), ?_⟩
    --E
    cases g with
    | W x cs =>
      obtain ⟨a0, xs, rfl, hs, hx, _⟩ := hv.tupd'
      obtain ⟨x1, x2, x3, rfl, r1, r2, r3⟩ := hx.trip
      cases r1
      obtain ⟨c0, ys, rfl, hc, hy, _⟩ := r3.tupd'
      refine ⟨_, rfl, a0, _, (0 : Int), _, rfl, rfl, hs, atI_nat (j := 0) rfl, rfl, _, rfl, ?_⟩
      rw [str_dec, decide_eq_true rfl]
      refine iteT ⟨_, rfl, a0, _, (2 : Int), _, rfl, rfl, hs, atI_nat (j := 2) rfl, c0, ys, rfl, .inr hc, fun l nl => ?_⟩
      exact q l _ (Same.new nl) nl (by rw [iD_ints hy]; exact upd_same)
    | F c =>
      obtain ⟨a0, xs, rfl, hs, hx, _⟩ := hv.tupd'
      obtain ⟨x1, x2, rfl, r1, r2⟩ := hx.pair
      cases r1
      cases r2
      refine ⟨_, rfl, a0, _, (0 : Int), _, rfl, rfl, hs, atI_nat (j := 0) rfl, rfl, _, rfl, ?_⟩
      rw [str_dec, decide_eq_false (by decide +kernel)]
      refine iteF ⟨_, rfl, a0, _, (0 : Int), _, rfl, rfl, hs, atI_nat (j := 0) rfl, rfl, _, rfl, ?_⟩
      rw [str_dec, decide_eq_true rfl]
      refine iteT ⟨_, rfl, a0, _, (1 : Int), _, rfl, rfl, hs, atI_nat (j := 1) rfl, (by show 1 ≤ sizeLine; omega), fun l nl => ?_⟩
      exact q l _ (Same.new nl) nl upd_same
    | V f =>
      obtain ⟨a0, xs, rfl, hs, hx, _⟩ := hv.tupd'
      obtain ⟨x1, x2, rfl, r1, r2⟩ := hx.pair
      cases r1
      refine ⟨_, rfl, a0, _, (0 : Int), _, rfl, rfl, hs, atI_nat (j := 0) rfl, rfl, _, rfl, ?_⟩
      rw [str_dec, decide_eq_false (by decide +kernel)]
      refine iteF ⟨_, rfl, a0, _, (0 : Int), _, rfl, rfl, hs, atI_nat (j := 0) rfl, rfl, _, rfl, ?_⟩
      rw [str_dec, decide_eq_false (by decide +kernel)]
      refine iteF ⟨(by show 0 ≤ sizeLine; omega), fun l nl => ?_⟩
      exact q l _ (Same.new nl) nl upd_same
end
end Sl

set_option Elab.async false
set_option linter.all false
set_option maxRecDepth 100000
set_option maxHeartbeats 400000
/-! ### open terms shown and compared -/
namespace Sl
open PySem PySem.Spec PyProof.Rows L2
mutual
def D.nice : D → Bool
  | .str x => PyData.strOk x && decide (x.length ≤ 8)
  | .tup ds => D.nices ds
  | _ => false
def D.nices : List D → Bool
  | [] => true
  | d :: ds => d.nice && D.nices ds
end
theorem nices_of : ∀ {ds : List D}, (∀ d ∈ ds, d.nice = true) → D.nices ds = true
  | [], _ => by simp [D.nices]
  | d :: ds, h => by
    simp only [D.nices, Bool.and_eq_true]
    exact ⟨h d List.mem_cons_self, nices_of fun x hx => h x (List.mem_cons_of_mem _ hx)⟩
section
variable {K : PySem.W.Frag} {H : Hp}
mutual
theorem Rdd.dpN : ∀ (d : D) {v : V}, d.nice = true → Rdd K H v d → Dp K H v d.py
  | .non, _, g, _ => by simp [D.nice] at g
  | .bl b, _, g, _ => by simp [D.nice] at g
  | .int i, _, g, _ => by simp [D.nice] at g
  | .str x, _, _, h => by
    cases h
    simp only [D.py]
    exact .str x
  | .tup ds, _, g, h => by
    simp only [D.nice] at g
    cases h with
    | tup hs ha _ =>
      simp only [D.py]
      exact .tup hs (RddAll.dpN ds g ha)
  | .lst, _, g, _ => by simp [D.nice] at g
  | .dct, _, g, _ => by simp [D.nice] at g
theorem RddAll.dpN : ∀ (ds : List D) {vs : List V}, D.nices ds = true → RddAll K H vs ds → DpAll K H vs (D.pys ds)
  | [], _, _, h => by cases h; simp only [D.pys]; exact .nil
  | d :: ds, _, g, h => by
    simp only [D.nices, Bool.and_eq_true] at g
    cases h with
    | cons h1 h2 =>
      simp only [D.pys]
      exact .cons (Rdd.dpN d g.1 h1) (RddAll.dpN ds g.2 h2)
end
end
mutual
theorem nice_ok : ∀ d : D, d.nice = true → d.py.showable = true ∧ d.py.canLay0 = true ∧ d.py.intsShort 13 = true
  | .non, g => by simp [D.nice] at g
  | .bl b, g => by simp [D.nice] at g
  | .int i, g => by simp [D.nice] at g
  | .str x, g => by
    simp only [D.nice, Bool.and_eq_true] at g
    simp only [D.py, PyData.showable, PyData.canLay0, PyData.intsShort, and_true, true_and]
    exact g.1
  | .tup ds, g => by
    simp only [D.nice] at g
    simp only [D.py, PyData.showable, PyData.canLay0, PyData.intsShort]
    exact nices_ok ds g
  | .lst, g => by simp [D.nice] at g
  | .dct, g => by simp [D.nice] at g
theorem nices_ok : ∀ ds : List D, D.nices ds = true → PyData.showableAll (D.pys ds) = true ∧ PyData.canLayAll0 (D.pys ds) = true ∧ PyData.intsShortAll 13 (D.pys ds) = true
  | [], _ => by simp [D.pys, PyData.showableAll, PyData.canLayAll0, PyData.intsShortAll]
  | d :: ds, g => by
    simp only [D.nices, Bool.and_eq_true] at g
    have h1 := nice_ok d g.1
    have h2 := nices_ok ds g.2
    simp only [D.pys, PyData.showableAll, PyData.canLayAll0, PyData.intsShortAll, Bool.and_eq_true]
    exact ⟨⟨h1.1, h2.1⟩, ⟨h1.2.1, h2.2.1⟩, h1.2.2, h2.2.2⟩
end
theorem str_nice {x : Str} (h : nmOk x = true) : (D.str x).nice = true := by
  simp only [D.nice, Bool.and_eq_true, decide_eq_true_eq]
  exact ⟨nm_strOk h, nm_small h⟩
theorem nice_word : (D.str "word").nice = true := by decide +kernel
theorem nice_name : (D.str "name").nice = true := by decide +kernel
theorem nice_fun : (D.str "fun").nice = true := by decide +kernel
theorem nice_let : (D.str "let").nice = true := by decide +kernel
theorem wt_str {x : Str} (h : nmOk x = true) : (D.str x).py.weight ≤ 8 := by
  simp only [D.py, PyData.weight]
  exact nm_small h
theorem pys_map : ∀ l : List D, D.pys l = l.map D.py
  | [] => by simp [D.pys]
  | d :: l => by simp [D.pys, pys_map l]
theorem wt_all (c k : Nat) {n : Nat} : ∀ l : List D, (∀ e ∈ l, e.py.weight + 12 ≤ 32 * cnt n e) → PyData.weightAll (D.pys l) + 11 * l.length ≤ 32 * (l.map (cnt n)).sum
  | [], _ => by simp [D.pys, PyData.weightAll]
  | e :: l, h => by
    have h1 := h e List.mem_cons_self
    have h2 := wt_all c k (n := n) l fun x hx => h x (List.mem_cons_of_mem _ hx)
    simp only [D.pys, PyData.weightAll, List.map_cons, List.sum_cons, List.length_cons]
    omega
theorem wt_ps {n : Nat} : ∀ ps : List (Str × D), (∀ p ∈ ps, nmOk p.1 = true) → (∀ p ∈ ps, p.2.py.weight + 12 ≤ 32 * cnt n p.2) → PyData.weightAll (D.pys (mkPs ps)) ≤ 32 * ((ps.map (·.2)).map (cnt n)).sum
  | [], _, _ => by simp [mkPs, D.pys, PyData.weightAll]
  | p :: ps, h0, h => by
    have h1 := h p List.mem_cons_self
    have h3 := wt_str (h0 p List.mem_cons_self)
    have h2 := wt_ps (n := n) ps (fun x hx => h0 x (List.mem_cons_of_mem _ hx)) fun x hx => h x (List.mem_cons_of_mem _ hx)
    have e : mkPs (p :: ps) = .tup [.str p.1, p.2] :: mkPs ps := rfl
    rw [e]
    simp only [D.pys, D.py, PyData.weightAll, PyData.weight, List.map_cons, List.sum_cons]
    simp only [D.py, PyData.weight] at h3
    omega
theorem dep_all {m : Nat} : ∀ l : List D, (∀ e ∈ l, e.dep ≤ m) → D.deps l ≤ m
  | [], _ => by simp [D.deps]
  | e :: l, h => by
    have h1 := h e List.mem_cons_self
    have h2 := dep_all l fun x hx => h x (List.mem_cons_of_mem _ hx)
    simp only [D.deps]
    omega
theorem opn_nice : ∀ {n : Nat} {d : D}, OpN n d → d.nice = true ∧ d.py.weight + 12 ≤ 32 * cnt n d ∧ d.dep ≤ 3 * n
  | 0, _, h => h.elim
  | n + 1, d, h => by
    have om := OpN.s.mp h
    have w1 : (D.str "word").py.weight = 4 := by decide +kernel
    have w2 : (D.str "name").py.weight = 4 := by decide +kernel
    have w3 : (D.str "fun").py.weight = 3 := by decide +kernel
    have w4 : (D.str "let").py.weight = 3 := by decide +kernel
    rcases built_cases om.1.1 with ⟨x, rfl, hx⟩ | ⟨x, l0, rfl, hx, hl0⟩ | ⟨x, b, rfl, hx⟩ | ⟨ps, b, rfl, hp⟩
    · have := wt_str hx
      refine ⟨?_, ?_, ?_⟩
      · simp only [mkU, D.nice, D.nices, Bool.and_true, Bool.and_eq_true]
        have := str_nice hx
        have h2 := nice_name
        simp only [D.nice, Bool.and_eq_true] at this h2
        exact ⟨h2, this⟩
      · rw [cnt_U]
        show PyData.weight (D.py (.tup [.str "name", .str x])) + 12 ≤ _
        simp only [D.py, D.pys, PyData.weight, PyData.weightAll] at *
        omega
      · simp only [mkU, D.dep, D.deps]
        omega
    · have ih := om.2
      rw [inn_W] at ih
      have i1 := nices_of fun d hd => (opn_nice (ih d hd)).1
      have i2 := wt_all 0 0 (n := n) l0 fun e he => (opn_nice (ih e he)).2.1
      have i3 := dep_all (m := 3 * n) l0 fun e he => (opn_nice (ih e he)).2.2
      have := wt_str hx
      refine ⟨?_, ?_, ?_⟩
      · have h1 := str_nice hx
        have h2 := nice_word
        simp only [mkW, D.nice, D.nices, Bool.and_true, Bool.and_eq_true] at h1 h2 ⊢
        exact ⟨h2, h1, i1⟩
      · rw [cnt_s, inn_W]
        simp only [mkW, D.py, D.pys, PyData.weight, PyData.weightAll] at *
        omega
      · simp only [mkW, D.dep, D.deps]
        omega
    · have ih := om.2
      rw [inn_F] at ih
      have i := opn_nice (ih b (List.mem_singleton.mpr rfl))
      have := wt_str hx
      refine ⟨?_, ?_, ?_⟩
      · have h1 := str_nice hx
        have h2 := nice_fun
        simp only [mkF, D.nice, D.nices, Bool.and_true, Bool.and_eq_true] at h1 h2 ⊢
        exact ⟨h2, h1, i.1⟩
      · rw [cnt_s, inn_F]
        simp only [mkF, D.py, D.pys, PyData.weight, PyData.weightAll, List.map_cons, List.map_nil, List.sum_cons, List.sum_nil] at *
        omega
      · simp only [mkF, D.dep, D.deps]
        omega
    · have ih := om.2
      rw [inn_L] at ih
      have i := opn_nice (ih b (List.mem_append_right _ (List.mem_singleton.mpr rfl)))
      have ip : ∀ p ∈ ps, p.2.nice = true ∧ p.2.py.weight + 12 ≤ 32 * cnt n p.2 ∧ p.2.dep ≤ 3 * n := fun p hp => opn_nice (ih p.2 (List.mem_append_left _ (List.mem_map.mpr ⟨p, hp, rfl⟩)))
      have i2 := wt_ps (n := n) ps hp.2.2.1 fun p hp => (ip p hp).2.1
      have i3 : D.deps (mkPs ps) ≤ 3 * n + 1 := dep_all _ fun e he => by
        obtain ⟨p, hp, rfl⟩ := List.mem_map.mp he
        have := (ip p hp).2.2
        simp only [D.dep, D.deps]
        omega
      refine ⟨?_, ?_, ?_⟩
      · have h2 := nice_let
        have h3 : D.nices (mkPs ps) = true := nices_of fun d hd => by
          obtain ⟨p, hp1, rfl⟩ := List.mem_map.mp hd
          have h4 := str_nice (hp.2.2.1 p hp1)
          have h5 := (ip p hp1).1
          simp only [D.nice, D.nices, Bool.and_true, Bool.and_eq_true] at h4 ⊢
          exact ⟨h4, h5⟩
        simp only [mkL, D.nice, D.nices, Bool.and_true, Bool.and_eq_true] at h2 ⊢
        exact ⟨h2, h3, i.1⟩
      · rw [cnt_s, inn_L, List.map_append, List.sum_append_nat]
        simp only [mkL, D.py, D.pys, PyData.weight, PyData.weightAll, List.map_cons, List.map_nil, List.sum_cons, List.sum_nil] at *
        omega
      · simp only [mkL, D.dep, D.deps]
        omega
/-- repr of data as deep as there is room -/
def rReprM (K : PySem.W.Frag) (m : Nat) : List V → Hp → VK → Prop := fun xs H Q => ∃ v d, xs = [v] ∧ Dp K H v d ∧ d.showable = true ∧ d.depth ≤ m ∧ d.shown.length ≤ sizeLine ∧ Q (.str d.shown) H
theorem call_reprM {X : Cx} {k m : Nat} (hG : X.A.guards = some []) (hr : Room k X.A) (hm : m ≤ 16 * k + 150) : CallR X (.builtin "repr") (rReprM X.K m) := by
  intro pins z σ H xs us Q I r h
  obtain ⟨v, d, rfl, hd, hs, hdp, hz, q⟩ := h
  obtain ⟨u, rfl, ru⟩ := vals1 r
  have hu := hr.un
  have room : X.A.units + (d.depth + 1) < cLine := by omega
  cases hd with
  | non =>
    cases ru
    exact PySem.P.repr_of_none ⟨.str _, H, I.tok _, ⟨_, rfl⟩, q⟩
  | bl b =>
    cases ru
    exact PySem.P.repr_of_bool ⟨.str _, H, I.tok _, ⟨_, rfl⟩, by simpa only [PyData.shown] using q⟩
  | int i =>
    obtain ⟨t, rfl⟩ := ru
    exact PySem.P.repr_of_int (of_decide_eq_true (by simpa only [PyData.showable] using hs)) ⟨.str _, H, I.tok _, ⟨_, rfl⟩, by simpa only [PyData.shown] using q⟩
  | str x =>
    obtain ⟨t, rfl⟩ := ru
    simp only [PyData.shown] at q hz
    exact PySem.P.repr_of_str ⟨.str _, H, I.tok _, ⟨_, rfl⟩, q⟩ hz
  | @lst a ys ds h1 h2 =>
    cases ru
    obtain ⟨as, rd⟩ := Dp.reads I (.list ds) (.ref a) (.ref a) (.lst h1 h2) rfl
    refine repr_of_reads' rd hs (PyData.noDict_hsm (noDict (.list ds) (.ref a) (.lst h1 h2))) hG room (fun _ _ e => e) (fun h' u tk hk => ?_) hz
    exact ⟨.str _, H, I.kept hk, ⟨u, rfl⟩, q⟩
  | @tup a ys ds h1 h2 =>
    cases ru
    obtain ⟨as, rd⟩ := Dp.reads I (.tuple ds) (.ref a) (.ref a) (.tup h1 h2) rfl
    refine repr_of_reads' rd hs (PyData.noDict_hsm (noDict (.tuple ds) (.ref a) (.tup h1 h2))) hG room (fun _ _ e => e) (fun h' u tk hk => ?_) hz
    exact ⟨.str _, H, I.kept hk, ⟨u, rfl⟩, q⟩
theorem rReprM_term {K : PySem.W.Frag} {H : Hp} {v : V} {d : D} {n m : Nat} {Q : VK} (r : Rdd K H v d) (o : OpN n d) (hn : 3 * n + 3 ≤ m) (hc : cnt n d ≤ 500) (q : Q (.str d.py.shown) H) : rReprM K m [v] H Q := by
  obtain ⟨g, w, dp⟩ := opn_nice o
  have h1 := dep_py d
  have ok := nice_ok d g
  refine ⟨v, d.py, rfl, Rdd.dpN d g r, ok.1, by omega, PyData.shown_fits (B := 13) (by decide) (by decide) (PyData.leavesShort_of_canLay0 13 d.py ok.2.1 ok.2.2) ?_, q⟩
  have : (2 : Nat) ^ 20 = 1048576 := by decide
  omega
theorem rRepr_term {K : PySem.W.Frag} {H : Hp} {v : V} {d : D} {n : Nat} {Q : VK} (r : Rdd K H v d) (o : OpN n d) (hn : n ≤ 12) (hc : cnt n d ≤ 500) (q : Q (.str d.py.shown) H) : rRepr K [v] H Q := by
  obtain ⟨g, w, dp⟩ := opn_nice o
  have h1 := dep_py d
  have ok := nice_ok d g
  refine ⟨v, d.py, rfl, Rdd.dpN d g r, ok.1, by omega, PyData.shown_fits (B := 13) (by decide) (by decide) (PyData.leavesShort_of_canLay0 13 d.py ok.2.1 ok.2.2) ?_, q⟩
  have : (2 : Nat) ^ 20 = 1048576 := by decide
  omega
theorem rNe_term {K : PySem.W.Frag} {H : Hp} {v u : V} {d : D} {n : Nat} {Q : VK} (r1 : Rdd K H v d) (r2 : Rdd K H u d) (o : OpN n d) (hn : n ≤ 12) (q : Q (.bl false) H) : rNeD K v u H Q := by
  obtain ⟨g, w, dp⟩ := opn_nice o
  have h1 := dep_py d
  have c := (nice_ok d g).2.1
  have s : SeqAt.shaped d.py = true := by
    unfold SeqAt.shaped
    rw [c, decide_eq_true (show d.py.depth ≤ 64 by omega)]
    rfl
  refine ⟨d.py, d.py, Rdd.dpN d g r1, Rdd.dpN d g r2, s, s, ?_⟩
  rw [SeqAt.eqv_refl d.py c]
  exact q
theorem rEq_term {K : PySem.W.Frag} {H : Hp} {v u : V} {d : D} {n : Nat} {Q : VK} (r1 : Rdd K H v d) (r2 : Rdd K H u d) (o : OpN n d) (hn : n ≤ 12) (q : Q (.bl true) H) : rEqD K v u H Q := by
  obtain ⟨g, w, dp⟩ := opn_nice o
  have h1 := dep_py d
  have c := (nice_ok d g).2.1
  have s : SeqAt.shaped d.py = true := by
    unfold SeqAt.shaped
    rw [c, decide_eq_true (show d.py.depth ≤ 64 by omega)]
    rfl
  refine ⟨d.py, d.py, Rdd.dpN d g r1, Rdd.dpN d g r2, s, s, ?_⟩
  rw [SeqAt.eqv_refl d.py c]
  exact q
end Sl

set_option Elab.async false
set_option linter.all false
set_option maxRecDepth 100000
set_option maxHeartbeats 400000
/-! ## _law_binder, _law_head, _law_key -/
namespace Sl
open PySem PySem.Spec PyProof.Rows L2
abbrev sBinder : Stmt := topT 43
abbrev sHead : Stmt := topT 44
abbrev sKey : Stmt := topT 45
theorem scBinder : FnScope ["_law_root", "_law_path", "_law_sign", "_law_size", "_law_part_here", "_law_name_here", "_law_inner_here"] ["_law_root", "_law_path"] (defScope sBinder) := ⟨rfl, rfl, rfl, by decide +kernel, rfl, by decide +kernel, by decide +kernel⟩
theorem scHead : FnScope ["_law_root", "_law_path", "_law_part_here", "_law_owner", "_law_block_here", "_law_names", "_law_name_here", "_law_inner_here"] ["_law_root", "_law_path"] (defScope sHead) := ⟨rfl, rfl, rfl, by decide +kernel, rfl, by decide +kernel, by decide +kernel⟩
theorem scKey : FnScope ["_law_root", "_law_path", "_law_head_here"] ["_law_root", "_law_path"] (defScope sKey) := ⟨rfl, rfl, rfl, by decide +kernel, rfl, by decide +kernel, by decide +kernel⟩
abbrev iV' (p : List Nat) : List V := p.map fun i => V.int (i : Nat)
theorem fm_some : ∀ l : List Str, (l.map fun y => some (V.str y)).filterMap id = l.map V.str
  | [] => rfl
  | d :: ds => by
    rw [List.map_cons, List.map_cons, ← fm_some ds]
    rfl
theorem flat_strs (l : List Str) : (l.map V.str).all flatV = true := List.all_eq_true.mpr fun v hv => by
  obtain ⟨x, _, rfl⟩ := List.mem_map.mp hv
  rfl
section
variable {P : Program} {w : World} {K : PySem.W.Frag} {mg : Str → Option Value} {base : Heap} {fIn fPa : Addr} {fdIn fdPa : FuncData}
def spBinder (K : PySem.W.Frag) : Sp := fun vs H Q _ => ∃ (v : V) (d : D) (t : Addr) (p u : List Nat) (n m : Nat) (x : Str), vs = [v, .ref t] ∧ Rdd K H v d ∧ OpN n d ∧ WfN m [] d ∧ n ≤ 9 ∧ SqT K H t (iV' p) ∧ PathOf p d ∧ subD p d = mkU x ∧ bnd d p x = some u ∧
  ∀ r H', Same H H' → Rdd K H' r (pd u) → Q r H'
theorem ok_binder (T : Lp K mg fIn fPa fdIn fdPa) (B : Bt mg) {f : Addr} {fd : FuncData} (F : Fun K "_law_binder" "_law_binder" sBinder f fd) : FnOk P w K mg base CX0 3 f fd ["_law_root", "_law_path"] (spBinder K) := by
  have GA : FnOk P w K mg base CX0 2 fPa fdPa ["_law_root", "_law_path"] (spPart K) := ok_part T B
  refine F.ok scBinder (fun vs H Q E h => ?_) (fun cdv A outer s H vs Q E hr h => ?_)
  · obtain ⟨v, d, t, p, u, n, m, x, rfl, _⟩ := h
    rfl
  · obtain ⟨v, d, t, p, u, n, m, x, rfl, hv, ho, wf, hn, ht, hp, hx, hb, q⟩ := h
    --DB
    refine ⟨_, (pss_cons (ps_set (i := 2) scBinder.nd rfl (Or.inl rfl) (pe_ix ix_tup (pe_call GA hr (by rfl) T.gPa T.FPa.kp T.bPa .nil pass0 (pa_cons (pv 0) (pa_cons (pv 1) pa_nil))) pe_int (fun _ _ => rfl)))
        (pss_cons (ps_for PassesOwn.never rfl (pi_range3 (by rfl) B.range (pa_cons (pe_op op_sub (pe_callB call_len_seq (by rfl) B.len PySem.boot_len (pa_cons (pv 1) pa_nil)) pe_int) (pa_cons (pe_un un_neg pe_int) (pa_cons (pe_un un_neg pe_int) pa_nil)))) (pg_name (i := 3) scBinder.nd rfl (Or.inl rfl))
          (pss_cons (ps_set (i := 4) scBinder.nd rfl (Or.inl rfl) (pe_call GA hr (by rfl) T.gPa T.FPa.kp T.bPa .nil pass0 (pa_cons (pv 0) (pa_cons (pe_slice sl_tup (pv 1) po_none (po_some (pv 3))) pa_nil))))
        (pss_cons (ps_if (PW.pt (pw_and (pt_cmpR op_eq (pe_ix ix_tup (pv 4) pe_int (fun _ _ => rfl)) pe_str (nomark _)) (pw_and1 (pt_cmpR op_eq (pe_ix ix_tup (pv 4) pe_int (fun _ _ => rfl)) (pv 2) (nomark _)))))
          (pss_one (ps_ret (pe_slice sl_tup (pv 1) po_none (po_some (pv 3))))) pss_nil)
        (pss_one (ps_if (PW.pt (pw_and (pt_cmpR op_eq (pe_ix ix_tup (pv 4) pe_int (fun _ _ => rfl)) pe_str (nomark _)) (pw_and1 (pt_cmpR op_in_seq (pv 2) (pe_lc (own := [("_law_name_here", 5), ("_law_inner_here", 6)]) (g := gTup K 2 (gCons (gName 5) (gCons (gName 6) gNil))) (tt := tYes) (te := tVar 5) rfl scBinder.nd (pi_tup (pe_ix ix_tup (pv 4) pe_int (fun _ _ => rfl))) (blkOk_by (own := [("_law_name_here", 5), ("_law_inner_here", 6)]) (N := ["_law_root", "_law_path", "_law_sign", "_law_size", "_law_part_here", "_law_name_here", "_law_inner_here"]) (sc := defScope sBinder) (by decide +kernel)) (fun _ _ _ _ _ => pg_tup rfl (pgs_cons (pg_name (i := 5) scBinder.nd rfl (Or.inl rfl)) (pgs_cons (pg_name (i := 6) scBinder.nd rfl (Or.inl rfl)) pgs_nil))) (fun _ _ _ _ _ => pts_nil) (fun _ _ _ _ _ => by exact pv 5)) (by rfl)))))
          (pss_one (ps_ret (pe_slice sl_tup (pv 1) po_none (po_some (pv 3))))) pss_nil)))))
        (pss_one (ps_ret pe_non)))), ?_⟩
    --EB
    have hu := hr.units
    have sl := sizeLine_eq
    have lp : p.length ≤ 9 := by
      have := (sub_ok hp ho).2
      omega
    refine ⟨_, rfl, _, rfl, v, d, t, p, n, rfl, hv, ho, ht, hp, fun r1 H1 s1 rr1 => ?_⟩
    rw [hx] at rr1
    obtain ⟨b0, zs, rfl, hb0, hzs, _⟩ := rr1.tupd'
    obtain ⟨z1, z2, rfl, rz1, rz2⟩ := hzs.pair
    cases rz2
    refine ⟨b0, _, (1 : Int), _, rfl, rfl, hb0, atI_nat (j := 1) rfl, ?_⟩
    have ht1 := (Ex.same s1).tup ht
    have lt : (iV' p).length = p.length := List.length_map ..
    refine ⟨_, rfl, t, _, rfl, .inr ht1, _, _, rfl, rfl, _, rfl, _, rfl, _, _, -1, p.length, rfl, ?_, ?_⟩
    · rw [lt]
      have := RgC.neg (i := (p.length : Int) - 1) (j := -1) (by omega) (by omega) (by omega) (by omega)
      rw [show (((p.length : Int) - 1) - (-1)).toNat = p.length by omega] at this
      exact this
    refine for_rangeC (fun i σ G => ∃ g3 g4 : Option V, σ = [some v, some (.ref t), some (.str x), g3, g4, none, none] ∧ Same H G ∧ bndN d p x (p.length - i) = some u) ⟨none, none, rfl, s1, by rw [Nat.sub_zero]; exact hb⟩ ?_ ?_
    · rintro i σ G hi ⟨g3, g4, rfl, sG, hbi⟩
      rw [lt]
      have ej : (p.length : Int) - 1 + (i : Nat) * (-1) = ((p.length - 1 - i : Nat) : Int) := by omega
      rw [ej]
      have eN : p.length - i = (p.length - 1 - i) + 1 := by omega
      rw [eN] at hbi
      have hj : p.length - 1 - i < p.length := by omega
      have nx : p.length - (i + 1) = p.length - 1 - i := by omega
      rw [nx]
      generalize p.length - 1 - i = j at hbi hj
      have htG := (Ex.same sG).tup ht
      have cut : ¬ (HT.sIx (iV' p).length 0 none = 0 ∧ HT.sIx (iV' p).length (iV' p).length (some (j : Int)) = (iV' p).length) := fun z => by
        have := z.2
        rw [HT.sIx_nat, lt] at this
        omega
      have ecut : cutV (iV' p) none (some (j : Int)) = iV' (p.take j) := by
        rw [cutTo']
        exact List.map_take.symm
      refine ⟨_, rfl, _, rfl, _, rfl, _, rfl, t, _, rfl, htG, cut, fun a1 n1 => ?_⟩
      rw [ecut]
      have s2 := Same.new (o := .tup (iV' (p.take j))) n1
      have h2 : (upd G a1 (.tup (iV' (p.take j)))) a1 = some (.tup (iV' (p.take j))) := upd_same
      generalize upd G a1 (.tup (iV' (p.take j))) = G2 at s2 h2 ⊢
      have s02 := sG.trans s2
      have pt := path_take hp j
      refine ⟨v, d, a1, p.take j, n, rfl, Rdd.ex (Ex.same s02) _ hv, ho, SqT.of h2, pt, fun r3 G3 s3 rr3 => ?_⟩
      have s03 := s02.trans s3
      have bt : built (subD (p.take j) d) = true := by
        obtain ⟨o1, l1⟩ := sub_ok pt ho
        obtain ⟨m1, hm1⟩ : ∃ m1, n - (p.take j).length = m1 + 1 := ⟨n - (p.take j).length - 1, by omega⟩
        rw [hm1] at o1
        exact (OpN.s.mp o1).1.1
      -- the path is returned
      have done : ∀ {G4 : Hp}, Same H G4 → bnds x (subD (p.take j) d) = true → ∀ a5, G4 a5 = none → Q (.ref a5) (upd G4 a5 (.tup (iV' (p.take j)))) := fun {G4} s4 hbt a5 n5 => by
        have s5 := Same.new (o := .tup (iV' (p.take j))) n5
        refine q _ _ (s4.trans s5) ?_
        unfold bndN at hbi
        rw [if_pos hbt] at hbi
        rw [← Option.some.inj hbi]
        exact tup_pd (SqT.of upd_same) (by rw [List.length_take]; omega)
      have goon : bnds x (subD (p.take j) d) = false → bndN d p x j = some u := fun hbt => by
        unfold bndN at hbi
        rw [hbt] at hbi
        exact hbi
      rcases built_cases bt with ⟨y, e, _⟩ | ⟨y, l, e, _, _⟩ | ⟨y, b, e, _⟩ | ⟨ps, b, e, hps⟩
      · rw [e] at rr3
        obtain ⟨c0, ys, rfl, hc0, hys, _⟩ := rr3.tupd'
        obtain ⟨y1, y2, rfl, r1, r2⟩ := hys.pair
        cases r1
        refine ⟨_, rfl, c0, _, (0 : Int), _, rfl, rfl, hc0, atI_nat (j := 0) rfl, rfl, _, rfl, ?_⟩
        rw [str_dec, decide_eq_false (by decide +kernel : ¬ ("name" : Str) = "fun")]
        refine iteF (iteF ⟨_, rfl, c0, _, (0 : Int), _, rfl, rfl, hc0, atI_nat (j := 0) rfl, rfl, _, rfl, ?_⟩)
        rw [str_dec, decide_eq_false (by decide +kernel : ¬ ("name" : Str) = "let")]
        exact iteF (iteF ⟨_, _, rfl, s03, goon (by rw [e, bnds_U])⟩)
      · rw [e] at rr3
        obtain ⟨c0, ys, rfl, hc0, hys, _⟩ := rr3.tupd'
        obtain ⟨y1, y2, y3, rfl, r1, r2, r3⟩ := hys.trip
        cases r1
        refine ⟨_, rfl, c0, _, (0 : Int), _, rfl, rfl, hc0, atI_nat (j := 0) rfl, rfl, _, rfl, ?_⟩
        rw [str_dec, decide_eq_false (by decide +kernel : ¬ ("word" : Str) = "fun")]
        refine iteF (iteF ⟨_, rfl, c0, _, (0 : Int), _, rfl, rfl, hc0, atI_nat (j := 0) rfl, rfl, _, rfl, ?_⟩)
        rw [str_dec, decide_eq_false (by decide +kernel : ¬ ("word" : Str) = "let")]
        exact iteF (iteF ⟨_, _, rfl, s03, goon (by rw [e, bnds_W])⟩)
      · rw [e] at rr3
        obtain ⟨c0, ys, rfl, hc0, hys, _⟩ := rr3.tupd'
        obtain ⟨y1, y2, y3, rfl, r1, r2, r3⟩ := hys.trip
        cases r1
        cases r2
        refine ⟨_, rfl, c0, _, (0 : Int), _, rfl, rfl, hc0, atI_nat (j := 0) rfl, rfl, _, rfl, ?_⟩
        rw [str_dec, decide_eq_true rfl]
        refine iteT ⟨_, rfl, c0, _, (1 : Int), _, rfl, rfl, hc0, atI_nat (j := 1) rfl, _, rfl, rfl, _, rfl, ?_⟩
        rw [str_dec]
        by_cases eyx : y = x
        · rw [decide_eq_true eyx]
          exact iteT ⟨_, rfl, _, rfl, _, rfl, t, _, rfl, (Ex.same s03).tup ht, cut, fun a5 n5 => by
            rw [ecut]
            exact done s03 (by rw [e, bnds_F, decide_eq_true eyx]) a5 n5⟩
        · rw [decide_eq_false eyx]
          refine iteF ⟨_, rfl, c0, _, (0 : Int), _, rfl, rfl, hc0, atI_nat (j := 0) rfl, rfl, _, rfl, ?_⟩
          rw [str_dec, decide_eq_false (by decide +kernel : ¬ ("fun" : Str) = "let")]
          exact iteF (iteF ⟨_, _, rfl, s03, goon (by rw [e, bnds_F, decide_eq_false eyx])⟩)
      · rw [e] at rr3
        obtain ⟨c0, ys, rfl, hc0, hys, _⟩ := rr3.tupd'
        obtain ⟨y1, y2, y3, rfl, r1, r2, r3⟩ := hys.trip
        cases r1
        obtain ⟨c, ws, rfl, hc, hws, _⟩ := r2.tupd'
        refine ⟨_, rfl, c0, _, (0 : Int), _, rfl, rfl, hc0, atI_nat (j := 0) rfl, rfl, _, rfl, ?_⟩
        rw [str_dec, decide_eq_false (by decide +kernel : ¬ ("let" : Str) = "fun")]
        refine iteF (iteF ⟨_, rfl, c0, _, (0 : Int), _, rfl, rfl, hc0, atI_nat (j := 0) rfl, rfl, _, rfl, ?_⟩)
        rw [str_dec, decide_eq_true rfl]
        refine iteT ?_
        obtain ⟨us, ru, lu, at'⟩ := hws.snds
        have lw := hws.length
        have lpp : (mkPs ps).length = ps.length := List.length_map ..
        have hp2 := hps.2.1
        refine ⟨_, rfl, _, rfl, c0, _, (1 : Int), .ref c, rfl, rfl, hc0, atI_nat (j := 1) rfl, c, rfl, ⟨_, hc⟩, fun D0 nD => lcT ((ps.map (·.1)).map fun y => some (V.str y)) (by rw [List.length_map, List.length_map, lw, lpp]) (by omega) hc nD ?_ ?_⟩
        · intro k z G4 Q2 Z2 hz s4 hQ _
          obtain ⟨a6, y, u2, rfl, h6, hu2, hy⟩ := at' k z hz
          refine ⟨a6, _, rfl, (Ex.same s4).tup h6, rfl, _, _, rfl, _, _, rfl, rfl, rfl, ?_⟩
          refine iteT (B := Z2 G4) ⟨_, rfl, hQ _ _ ?_ (Same.refl _)⟩
          rw [List.getElem?_map, hy]
          rfl
        · intro G4 s4 hD
          rw [fm_some] at hD
          refine ⟨D0, _, rfl, .inl (SqL.of hD), rfl, flat_strs _, ?_⟩
          rw [if_neg Bool.false_ne_true, inV_strs]
          have s04 := s03.trans s4
          by_cases hm : x ∈ ps.map (·.1)
          · rw [decide_eq_true hm]
            exact ⟨_, rfl, iteT ⟨_, rfl, _, rfl, _, rfl, t, _, rfl, (Ex.same s04).tup ht, cut, fun a5 n5 => by
              rw [ecut]
              exact done s04 (by rw [e, bnds_L, decide_eq_true hm]) a5 n5⟩⟩
          · rw [decide_eq_false hm]
            exact ⟨_, rfl, iteF ⟨_, _, rfl, s04, goon (by rw [e, bnds_L, decide_eq_false hm])⟩⟩
    · rintro σ G ⟨g3, g4, rfl, sG, hbi⟩
      rw [Nat.sub_self] at hbi
      cases hbi
end
end Sl

set_option Elab.async false
set_option linter.all false
set_option maxRecDepth 100000
set_option maxHeartbeats 400000
/-! ## _law_head, _law_key -/
namespace Sl
open PySem PySem.Spec PyProof.Rows L2
/-- a key as a value -/
def kyD (κ : Ky) : D := .tup [.str (if κ.1 = true then "var" else "node"), pd κ.2]
/-- t + (k,) -/
theorem cat1 {K : PySem.W.Frag} {G : Hp} {t a : Addr} {p : List Nat} {k : Nat} {Q : VK} (ht : SqT K G t (iV' p)) (ha : SqT K G a [V.int (k : Nat)]) (lp : p.length ≤ 1000) (q : ∀ r G', Same G G' → SqT K G' r (iV' (p ++ [k])) → Q (.ref r) G') : rCatA K (.ref t) (.ref a) G Q := by
  have sl := sizeLine_eq
  refine ⟨t, a, _, _, rfl, rfl, ht, ha, by rw [List.length_map]; simp; omega, fun z => ?_, (fun _ z => by cases z), fun z _ c nc => ?_⟩
  · have eq0 : p = [] := List.map_eq_nil_iff.mp z
    subst eq0
    exact q a G (Same.refl _) ha
  · refine q c _ (Same.new nc) ?_
    rw [show iV' (p ++ [k]) = iV' p ++ [V.int (k : Nat)] from List.map_append ..]
    exact SqT.of upd_same
theorem eqV_str (x : Str) : eqV (.str x) (.str x) = true := by
  show (x == x) = true
  exact beq_self_eq_true x
theorem eqV_str_ne {x y : Str} (h : ¬ x = y) : eqV (.str x) (.str y) = false := by
  show (x == y) = false
  exact beq_eq_false_iff_ne.mpr h
theorem idx_first {α : Type} [BEq α] [LawfulBEq α] {x : α} : ∀ {l : List α} {j : Nat}, j < l.idxOf x → l[j]? = some x → False
  | [], j, h, _ => by simp at h
  | a :: l, j, h, e => by
    rw [List.idxOf_cons] at h
    by_cases z : a = x
    · rw [beq_iff_eq.mpr z] at h
      simp at h
    · rw [beq_eq_false_iff_ne.mpr z] at h
      simp only [cond_false] at h
      cases j with
      | zero => exact z (Option.some.inj e)
      | succ j => exact idx_first (x := x) (l := l) (j := j) (by omega) (by simpa using e)
section
variable {P : Program} {w : World} {K : PySem.W.Frag} {mg : Str → Option Value} {base : Heap} {fIn fPa : Addr} {fdIn fdPa : FuncData}
/-- the law's defs of heads -/
structure Lh (K : PySem.W.Frag) (mg : Str → Option Value) (fBi fHe fKe : Addr) (dBi dHe dKe : FuncData) : Prop where
  FBi : Fun K "_law_binder" "_law_binder" sBinder fBi dBi
  bBi : Binds K dBi ["_law_root", "_law_path"] []
  gBi : mg "_law_binder" = some (.ref fBi)
  FHe : Fun K "_law_head" "_law_head" sHead fHe dHe
  bHe : Binds K dHe ["_law_root", "_law_path"] []
  gHe : mg "_law_head" = some (.ref fHe)
  FKe : Fun K "_law_key" "_law_key" sKey fKe dKe
  bKe : Binds K dKe ["_law_root", "_law_path"] []
  gKe : mg "_law_key" = some (.ref fKe)
variable {fBi fHe fKe : Addr} {dBi dHe dKe : FuncData}
def spHead (K : PySem.W.Frag) : Sp := fun vs H Q _ => ∃ (v : V) (d : D) (t : Addr) (p h : List Nat) (n m k : Nat), vs = [v, .ref t] ∧ Rdd K H v d ∧ OpN n d ∧ WfN m [] d ∧ n ≤ 9 ∧ SqT K H t (iV' p) ∧ PathOf p d ∧ Hd d k p h ∧
  ∀ r H', Same H H' → Rdd K H' r (pd h) → Q r H'
theorem ok_head (T : Lp K mg fIn fPa fdIn fdPa) (Z : Lh K mg fBi fHe fKe dBi dHe dKe) (B : Bt mg) : FnOk P w K mg base CX0 4 fHe dHe ["_law_root", "_law_path"] (spHead K) := by
  have GA : FnOk P w K mg base CX0 2 fPa fdPa ["_law_root", "_law_path"] (spPart K) := ok_part T B
  have GB : FnOk P w K mg base CX0 3 fBi dBi ["_law_root", "_law_path"] (spBinder K) := ok_binder T B Z.FBi
  refine Z.FHe.ok scHead (fun vs H Q E h => ?_) (fun cdv A outer s H vs Q E hr h => ?_)
  · obtain ⟨v, d, t, p, h, n, m, k, rfl, _⟩ := h
    rfl
  · obtain ⟨v, d, t, p, hh, n, m, k, rfl, hv, ho, wf, hn, ht, hp, hd, q⟩ := h
    have h2 := hr.mono (by decide : 2 ≤ 3)
    --DH
    refine ⟨_, (pss_one (ps_while PassesOwn.never (pt_truth pe_bl (by intro _; rfl))
        (pss_cons (ps_set (i := 2) scHead.nd rfl (Or.inl rfl) (pe_call GA h2 (by rfl) T.gPa T.FPa.kp T.bPa .nil pass0 (pa_cons (pv 0) (pa_cons (pv 1) pa_nil))))
        (pss_one (ps_if (pt_cmpR op_eq (pe_ix ix_tup (pv 2) pe_int (fun _ _ => rfl)) pe_str (nomark _))
          (pss_one (ps_set (i := 1) scHead.nd rfl (Or.inl rfl) (pe_op op_catA (pv 1) (pe_tup (pa_cons (pe_callB call_len_seq (by rfl) B.len PySem.boot_len (pa_cons (pe_ix ix_tup (pv 2) pe_int (fun _ _ => rfl)) pa_nil)) pa_nil))))) (pss_one (ps_if (pt_cmpR op_eq (pe_ix ix_tup (pv 2) pe_int (fun _ _ => rfl)) pe_str (nomark _))
          (pss_cons (ps_set (i := 3) scHead.nd rfl (Or.inl rfl) (pe_call GB hr (by rfl) Z.gBi Z.FBi.kp Z.bBi .nil pass0 (pa_cons (pv 0) (pa_cons (pv 1) pa_nil))))
        (pss_cons (ps_set (i := 4) scHead.nd rfl (Or.inl rfl) (pe_call GA h2 (by rfl) T.gPa T.FPa.kp T.bPa .nil pass0 (pa_cons (pv 0) (pa_cons (pv 3) pa_nil))))
        (pss_cons (ps_if (pt_cmpR op_eq (pe_ix ix_tup (pv 4) pe_int (fun _ _ => rfl)) pe_str (nomark _))
          (pss_one (ps_ret (pv 1))) pss_nil)
        (pss_cons (ps_setLc (i := 5) (own := [("_law_name_here", 6), ("_law_inner_here", 7)]) (g := gTup K 2 (gCons (gName 6) (gCons (gName 7) gNil))) (tt := tYes) (te := tVar 6) rfl scHead.nd rfl rfl (sw_true rfl rfl rfl (by decide +kernel)) (pi_tup (pe_ix ix_tup (pv 4) pe_int (fun _ _ => rfl))) (blkOk_by (own := [("_law_name_here", 6), ("_law_inner_here", 7)]) (N := ["_law_root", "_law_path", "_law_part_here", "_law_owner", "_law_block_here", "_law_names", "_law_name_here", "_law_inner_here"]) (sc := defScope sHead) (by decide +kernel)) (fun _ _ _ _ _ => (pg_tup rfl (pgs_cons (pg_name (i := 6) scHead.nd rfl (Or.inl rfl)) (pgs_cons (pg_name (i := 7) scHead.nd rfl (Or.inl rfl)) pgs_nil)))) (fun _ _ _ _ _ => pts_nil) (fun _ _ _ _ _ => by exact pv 6))
        (pss_one (ps_set (i := 1) scHead.nd rfl (Or.inl rfl) (pe_op op_catA (pv 3) (pe_tup (pa_cons (pe_bm PySem.F.plainAttrs_list PySem.F.slot_list_index PySem.F.type_list_index mt_index (pv 5) (pa_cons (pe_ix ix_tup (pv 2) pe_int (fun _ _ => rfl)) pa_nil)) pa_nil))))))))) (pss_one (ps_ret (pv 1)))))))))), ?_⟩
    --EH
    have hu := hr.units
    have sl := sizeLine_eq
    refine ⟨fun μ σ G => ∃ (p' : List Nat) (t' : Addr) (g2 g3 g4 g5 : Option V), σ = [some v, some (.ref t'), g2, g3, g4, g5, none, none] ∧ Same H G ∧ SqT K G t' (iV' p') ∧ PathOf p' d ∧ Hd d μ p' hh, ⟨k, p, t, none, none, none, none, rfl, Same.refl _, ht, hp, hd⟩, ?_⟩
    rintro μ σ G ⟨p', t', g2, g3, g4, g5, rfl, sG, ht', hp', hd'⟩
    have lp : ∀ {z : List Nat}, PathOf z d → z.length ≤ 9 := fun {z} hz => by
      have := (sub_ok hz ho).2
      omega
    have lt : ∀ z : List Nat, (iV' z).length = z.length := fun z => List.length_map ..
    refine ⟨true, rfl, iteT ⟨fun σ2 G2 => ∃ μ2, μ2 < μ ∧ ∃ (p' : List Nat) (t' : Addr) (g2 g3 g4 g5 : Option V), σ2 = [some v, some (.ref t'), g2, g3, g4, g5, none, none] ∧ Same H G2 ∧ SqT K G2 t' (iV' p') ∧ PathOf p' d ∧ Hd d μ2 p' hh, fun σ2 G2 h => h, ?_⟩⟩
    refine ⟨_, rfl, _, rfl, v, d, t', p', n, rfl, Rdd.ex (Ex.same sG) _ hv, ho, ht', hp', fun r1 G1 s1 rr1 => ?_⟩
    have s01 := sG.trans s1
    have ht1 := (Ex.same s1).tup ht'
    -- the path is returned
    have done : hh = p' → Q (.ref t') G1 := fun e => by
      refine q _ _ s01 ?_
      rw [e]
      exact tup_pd ht1 (by have := lp hp'; omega)
    rcases hd' with ⟨e⟩ | ⟨e⟩ | ⟨e, hb, e2⟩ | ⟨e, hd2⟩ | ⟨e, hb, e2, hx, hd2⟩
    · rename_i y l
      rw [e] at rr1
      obtain ⟨c0, ys, rfl, hc0, hys, _⟩ := rr1.tupd'
      obtain ⟨y1, y2, y3, rfl, r1, r2, r3⟩ := hys.trip
      cases r1
      refine ⟨_, rfl, c0, _, (0 : Int), _, rfl, rfl, hc0, atI_nat (j := 0) rfl, rfl, _, rfl, ?_⟩
      rw [str_dec, decide_eq_false (by decide +kernel : ¬ ("word" : Str) = "let")]
      refine iteF ⟨_, rfl, c0, _, (0 : Int), _, rfl, rfl, hc0, atI_nat (j := 0) rfl, rfl, _, rfl, ?_⟩
      rw [str_dec, decide_eq_false (by decide +kernel : ¬ ("word" : Str) = "name")]
      exact iteF ⟨_, rfl, done rfl⟩
    · rename_i y b
      rw [e] at rr1
      obtain ⟨c0, ys, rfl, hc0, hys, _⟩ := rr1.tupd'
      obtain ⟨y1, y2, y3, rfl, r1, r2, r3⟩ := hys.trip
      cases r1
      refine ⟨_, rfl, c0, _, (0 : Int), _, rfl, rfl, hc0, atI_nat (j := 0) rfl, rfl, _, rfl, ?_⟩
      rw [str_dec, decide_eq_false (by decide +kernel : ¬ ("fun" : Str) = "let")]
      refine iteF ⟨_, rfl, c0, _, (0 : Int), _, rfl, rfl, hc0, atI_nat (j := 0) rfl, rfl, _, rfl, ?_⟩
      rw [str_dec, decide_eq_false (by decide +kernel : ¬ ("fun" : Str) = "name")]
      exact iteF ⟨_, rfl, done rfl⟩
    · rename_i u x y b
      have hu' := bnd_path hp' hb
      rw [e] at rr1
      obtain ⟨c0, ys, rfl, hc0, hys, _⟩ := rr1.tupd'
      obtain ⟨y1, y2, rfl, r1, r2⟩ := hys.pair
      cases r1
      refine ⟨_, rfl, c0, _, (0 : Int), _, rfl, rfl, hc0, atI_nat (j := 0) rfl, rfl, _, rfl, ?_⟩
      rw [str_dec, decide_eq_false (by decide +kernel : ¬ ("name" : Str) = "let")]
      refine iteF ⟨_, rfl, c0, _, (0 : Int), _, rfl, rfl, hc0, atI_nat (j := 0) rfl, rfl, _, rfl, ?_⟩
      rw [str_dec, decide_eq_true rfl]
      refine iteT ⟨_, rfl, _, rfl, v, d, t', _, u, n, m, x, rfl, Rdd.ex (Ex.same s01) _ hv, ho, wf, hn, ht1, hp', e, hb, fun r3 G3 s3 rr3 => ?_⟩
      have s03 := s01.trans s3
      obtain ⟨t3, rfl, ht3⟩ := pd_tup rr3
      refine ⟨_, rfl, _, rfl, v, d, t3, u, n, rfl, Rdd.ex (Ex.same s03) _ hv, ho, ht3, hu', fun r4 G4 s4 rr4 => ?_⟩
      rw [e2] at rr4
      obtain ⟨c4, ws, rfl, hc4, hws, _⟩ := rr4.tupd'
      obtain ⟨w1, w2, w3, rfl, q1, q2, q3⟩ := hws.trip
      cases q1
      refine ⟨_, rfl, c4, _, (0 : Int), _, rfl, rfl, hc4, atI_nat (j := 0) rfl, rfl, _, rfl, ?_⟩
      rw [str_dec, decide_eq_true rfl]
      exact iteT ⟨_, rfl, q _ _ (s03.trans s4) (tup_pd ((Ex.same (s3.trans s4)).tup ht1) (by have := lp hp'; omega))⟩
    · rename_i μ2 ps b
      rw [e] at rr1
      obtain ⟨c0, ys, rfl, hc0, hys, _⟩ := rr1.tupd'
      obtain ⟨y1, y2, y3, rfl, r1, r2, r3⟩ := hys.trip
      cases r1
      obtain ⟨c, ws, rfl, hc, hws, _⟩ := r2.tupd'
      have lw : ws.length = ps.length := by rw [hws.length]; exact List.length_map ..
      refine ⟨_, rfl, c0, _, (0 : Int), _, rfl, rfl, hc0, atI_nat (j := 0) rfl, rfl, _, rfl, ?_⟩
      rw [str_dec, decide_eq_true rfl]
      refine iteT ⟨_, rfl, _, rfl, c0, _, (1 : Int), .ref c, rfl, rfl, hc0, atI_nat (j := 1) rfl, c, ws, rfl, .inr hc, (by show 1 ≤ sizeLine; omega), fun a na => ?_⟩
      have s2 := Same.new (o := .tup [V.int (ws.length : Nat)]) na
      refine cat1 ((Ex.same s2).tup ht1) (k := ps.length) (by rw [← lw]; exact SqT.of upd_same) (by have := lp hp'; omega) fun t5 G5 s5 ht5 => ?_
      exact ⟨μ2, Nat.lt_succ_self _, _, t5, _, _, _, _, rfl, (s01.trans s2).trans s5, ht5, (last_at' hp' e).1, hd2⟩
    · rename_i μ2 u x ps b
      have hu' := bnd_path hp' hb
      rw [e] at rr1
      obtain ⟨c0, ys, rfl, hc0, hys, _⟩ := rr1.tupd'
      obtain ⟨y1, y2, rfl, r1, r2⟩ := hys.pair
      cases r1
      cases r2
      refine ⟨_, rfl, c0, _, (0 : Int), _, rfl, rfl, hc0, atI_nat (j := 0) rfl, rfl, _, rfl, ?_⟩
      rw [str_dec, decide_eq_false (by decide +kernel : ¬ ("name" : Str) = "let")]
      refine iteF ⟨_, rfl, c0, _, (0 : Int), _, rfl, rfl, hc0, atI_nat (j := 0) rfl, rfl, _, rfl, ?_⟩
      rw [str_dec, decide_eq_true rfl]
      refine iteT ⟨_, rfl, _, rfl, v, d, t', p', u, n, m, x, rfl, Rdd.ex (Ex.same s01) _ hv, ho, wf, hn, ht1, hp', e, hb, fun r3 G3 s3 rr3 => ?_⟩
      have s03 := s01.trans s3
      obtain ⟨t3, rfl, ht3⟩ := pd_tup rr3
      refine ⟨_, rfl, _, rfl, v, d, t3, u, n, rfl, Rdd.ex (Ex.same s03) _ hv, ho, ht3, hu', fun r4 G4 s4 rr4 => ?_⟩
      rw [e2] at rr4
      obtain ⟨c4, ws, rfl, hc4, hws, _⟩ := rr4.tupd'
      obtain ⟨w1, w2, w3, rfl, q1, q2, q3⟩ := hws.trip
      cases q1
      obtain ⟨c, ws2, rfl, hc, hws2, _⟩ := q2.tupd'
      refine ⟨_, rfl, c4, _, (0 : Int), _, rfl, rfl, hc4, atI_nat (j := 0) rfl, rfl, _, rfl, ?_⟩
      rw [str_dec, decide_eq_false (by decide +kernel : ¬ ("let" : Str) = "fun")]
      refine iteF ?_
      have s04 := s03.trans s4
      obtain ⟨us, ru, lu, at'⟩ := hws2.snds
      have lw := hws2.length
      have lpp : (mkPs ps).length = ps.length := List.length_map ..
      have lps : ps.length ≤ 100 := by
        obtain ⟨o1, l1⟩ := sub_ok hu' ho
        obtain ⟨m1, hm1⟩ : ∃ m1, n - u.length = m1 + 1 := ⟨n - u.length - 1, by omega⟩
        rw [hm1, e2] at o1
        exact (built_L.mp (OpN.s.mp o1).1.1).2.1
      refine ⟨_, rfl, c4, _, (1 : Int), .ref c, rfl, rfl, hc4, atI_nat (j := 1) rfl, c, rfl, ⟨_, hc⟩, fun D0 nD => lcT ((ps.map (·.1)).map fun y => some (V.str y)) (by rw [List.length_map, List.length_map, lw, lpp]) (by omega) hc nD ?_ ?_⟩
      · intro k z G5 Q2 Z2 hz s5 hQ _
        obtain ⟨a6, y, u2, rfl, h6, hu2, hy⟩ := at' k z hz
        refine ⟨a6, _, rfl, (Ex.same s5).tup h6, rfl, _, _, rfl, _, _, rfl, rfl, rfl, ?_⟩
        refine iteT (B := Z2 G5) ⟨_, rfl, hQ _ _ ?_ (Same.refl _)⟩
        rw [List.getElem?_map, hy]
        rfl
      · intro G5 s5 hD
        rw [fm_some] at hD
        have s15 := (s3.trans s4).trans s5
        have hk := idx_at hx
        refine ⟨_, rfl, _, rfl, .inl ⟨rfl, _, SqL.of hD⟩, _, rfl, c0, _, (1 : Int), _, rfl, rfl, (Ex.same s15).tup hc0, atI_nat (j := 1) rfl, D0, (ps.map (·.1)).map V.str, .str x, (ps.map (·.1)).idxOf x, .str x, rfl, rfl, SqL.of hD, rfl, flat_strs _, (by rw [List.getElem?_map, hk]; rfl), eqV_str x, (fun j z hj hz => ?_), (by show 1 ≤ sizeLine; omega), fun a na => ?_⟩
        · rw [List.getElem?_map] at hz
          obtain ⟨y, hy, rfl⟩ := Option.map_eq_some_iff.mp hz
          exact eqV_str_ne fun z => absurd (idx_first hj (z ▸ hy)) id
        · have s2 := Same.new (o := .tup [V.int ((ps.map (·.1)).idxOf x : Nat)]) na
          refine cat1 ((Ex.same ((s4.trans s5).trans s2)).tup ht3) (k := (ps.map (·.1)).idxOf x) (SqT.of upd_same) (by have := lp hu'; omega) fun t7 G7 s7 ht7 => ?_
          exact ⟨μ2, Nat.lt_succ_self _, _, t7, _, _, _, _, rfl, ((s04.trans s5).trans s2).trans s7, ht7, (def_at' hu' e2 hx).1, hd2⟩
def spKey (K : PySem.W.Frag) : Sp := fun vs H Q _ => ∃ (v : V) (d : D) (t : Addr) (p : List Nat) (n m : Nat), vs = [v, .ref t] ∧ Rdd K H v d ∧ OpN n d ∧ WfN m [] d ∧ n ≤ 9 ∧ SqT K H t (iV' p) ∧ PathOf p d ∧
  ∀ r H', Same H H' → Rdd K H' r (kyD (ky d p)) → Q r H'
theorem ok_key (T : Lp K mg fIn fPa fdIn fdPa) (Z : Lh K mg fBi fHe fKe dBi dHe dKe) (B : Bt mg) : FnOk P w K mg base CX0 5 fKe dKe ["_law_root", "_law_path"] (spKey K) := by
  have GA : FnOk P w K mg base CX0 2 fPa fdPa ["_law_root", "_law_path"] (spPart K) := ok_part T B
  have GB : FnOk P w K mg base CX0 3 fBi dBi ["_law_root", "_law_path"] (spBinder K) := ok_binder T B Z.FBi
  have GH : FnOk P w K mg base CX0 4 fHe dHe ["_law_root", "_law_path"] (spHead K) := ok_head T Z B
  refine Z.FKe.ok scKey (fun vs H Q E h => ?_) (fun cdv A outer s H vs Q E hr h => ?_)
  · obtain ⟨v, d, t, p, n, m, rfl, _⟩ := h
    rfl
  · obtain ⟨v, d, t, p, n, m, rfl, hv, ho, wf, hn, ht, hp, q⟩ := h
    have h2 := hr.mono (by decide : 2 ≤ 4)
    have h3 := hr.mono (by decide : 3 ≤ 4)
    --DK
    refine ⟨_, (pss_cons (ps_set (i := 2) scKey.nd rfl (Or.inl rfl) (pe_call GH hr (by rfl) Z.gHe Z.FHe.kp Z.bHe .nil pass0 (pa_cons (pv 0) (pa_cons (pv 1) pa_nil))))
        (pss_cons (ps_if (pt_cmpR op_eq (pe_ix ix_tup (pe_call GA h2 (by rfl) T.gPa T.FPa.kp T.bPa .nil pass0 (pa_cons (pv 0) (pa_cons (pv 2) pa_nil))) pe_int (fun _ _ => rfl)) pe_str (nomark _))
          (pss_one (ps_ret (pe_tup (pa_cons pe_str (pa_cons (pe_call GB h3 (by rfl) Z.gBi Z.FBi.kp Z.bBi .nil pass0 (pa_cons (pv 0) (pa_cons (pv 2) pa_nil))) pa_nil))))) pss_nil)
        (pss_one (ps_ret (pe_tup (pa_cons pe_str (pa_cons (pv 2) pa_nil))))))), ?_⟩
    --EK
    have sl := sizeLine_eq
    obtain ⟨k, hh⟩ := hdP_at wf hp
    have hph := hh.path hp
    have lp : ∀ {z : List Nat}, PathOf z d → z.length ≤ 9 := fun {z} hz => by
      have := (sub_ok hz ho).2
      omega
    refine ⟨_, rfl, _, rfl, v, d, t, p, hdP d p, n, m, k, rfl, hv, ho, wf, hn, ht, hp, hh, fun r1 G1 s1 rr1 => ?_⟩
    obtain ⟨t1, rfl, ht1⟩ := pd_tup rr1
    refine ⟨_, rfl, _, rfl, v, d, t1, hdP d p, n, rfl, Rdd.ex (Ex.same s1) _ hv, ho, ht1, hph, fun r2 G2 s2 rr2 => ?_⟩
    have s02 := s1.trans s2
    have back : ∀ {κ : Ky} {x : Str} {G : Hp} {u a : Addr}, ky d p = κ → Same H G → (if κ.1 = true then ("var" : Str) else "node") = x → Rdd K G (.ref u) (pd κ.2) → G a = none → Q (.ref a) (upd G a (.tup [V.str x, .ref u])) := fun {κ x G u a} e s ex ru na => by
      have s3 := Same.new (o := .tup [V.str x, .ref u]) na
      refine q _ _ (s.trans s3) ?_
      rw [e]
      unfold kyD
      rw [ex]
      exact .tup (SqT.of upd_same) (.cons (.str _) (.cons (Rdd.ex (Ex.same s3) _ ru) .nil)) (by simp)
    rcases hh.is with ⟨x, l, e⟩ | ⟨x, b, e⟩ | ⟨x, u, b, e, hb, e2⟩
    · rw [e] at rr2
      obtain ⟨c0, ys, rfl, hc0, hys, _⟩ := rr2.tupd'
      obtain ⟨y1, y2, y3, rfl, r1, r2, r3⟩ := hys.trip
      cases r1
      have ek : ky d p = (false, hdP d p) := kyH_not (by rw [e, shp_W]; decide)
      refine ⟨c0, _, (0 : Int), _, rfl, rfl, hc0, atI_nat (j := 0) rfl, rfl, _, rfl, ?_⟩
      rw [str_dec, decide_eq_false (by decide +kernel : ¬ ("word" : Str) = "name")]
      exact iteF ⟨_, rfl, (by show 2 ≤ sizeLine; omega), fun a na => back ek s02 rfl (tup_pd ((Ex.same s2).tup ht1) (by have := lp hph; show (hdP d p).length ≤ 1000; omega)) na⟩
    · rw [e] at rr2
      obtain ⟨c0, ys, rfl, hc0, hys, _⟩ := rr2.tupd'
      obtain ⟨y1, y2, y3, rfl, r1, r2, r3⟩ := hys.trip
      cases r1
      have ek : ky d p = (false, hdP d p) := kyH_not (by rw [e, shp_F]; decide)
      refine ⟨c0, _, (0 : Int), _, rfl, rfl, hc0, atI_nat (j := 0) rfl, rfl, _, rfl, ?_⟩
      rw [str_dec, decide_eq_false (by decide +kernel : ¬ ("fun" : Str) = "name")]
      exact iteF ⟨_, rfl, (by show 2 ≤ sizeLine; omega), fun a na => back ek s02 rfl (tup_pd ((Ex.same s2).tup ht1) (by have := lp hph; show (hdP d p).length ≤ 1000; omega)) na⟩
    · rw [e] at rr2
      obtain ⟨c0, ys, rfl, hc0, hys, _⟩ := rr2.tupd'
      obtain ⟨y1, y2, rfl, r1, r2⟩ := hys.pair
      cases r1
      refine ⟨c0, _, (0 : Int), _, rfl, rfl, hc0, atI_nat (j := 0) rfl, rfl, _, rfl, ?_⟩
      rw [str_dec, decide_eq_true rfl]
      refine iteT ⟨_, rfl, _, rfl, v, d, t1, hdP d p, u, n, m, x, rfl, Rdd.ex (Ex.same s02) _ hv, ho, wf, hn, (Ex.same s2).tup ht1, hph, e, hb, fun r3 G3 s3 rr3 => ?_⟩
      obtain ⟨t3, rfl, ht3⟩ := pd_tup rr3
      exact ⟨(by show 2 ≤ sizeLine; omega), fun a na => back (kyH_use e hb) (s02.trans s3) rfl rr3 na⟩
end
end Sl

set_option Elab.async false
set_option linter.all false
set_option maxRecDepth 100000
set_option maxHeartbeats 400000
/-! ## _law_keys -/
namespace Sl
open PySem PySem.Spec PyProof.Rows L2
abbrev sKeys : Stmt := topT 46
theorem scKeys : FnScope ["_law_root", "_law_found", "_law_waits", "_law_key_here", "_law_size", "_law_spot"] ["_law_root"] (defScope sKeys) := ⟨rfl, rfl, rfl, by decide +kernel, rfl, by decide +kernel, by decide +kernel⟩
def kyP (κ : Ky) : PyData := .tuple [.str (if κ.1 = true then "var" else "node"), tupP κ.2]
theorem kyD_out {K : PySem.W.Frag} {H : Hp} {v : V} {κ : Ky} (h : Rdd K H v (kyD κ)) : ∃ a t, v = .ref a ∧ SqT K H a [V.str (if κ.1 = true then "var" else "node"), .ref t] ∧ SqT K H t (iV' κ.2) := by
  obtain ⟨a, xs, rfl, hs, hx, _⟩ := h.tupd'
  obtain ⟨x1, x2, rfl, r1, r2⟩ := hx.pair
  cases r1
  obtain ⟨t, rfl, ht⟩ := pd_tup r2
  exact ⟨a, t, rfl, hs, ht⟩
theorem kyP_dp {K : PySem.W.Frag} {H : Hp} {v : V} {κ : Ky} (h : Rdd K H v (kyD κ)) : Dp K H v (kyP κ) := by
  obtain ⟨a, t, rfl, hs, ht⟩ := kyD_out h
  exact .tup hs (.cons (.str _) (.cons (.tup ht (ints_dp κ.2)) .nil))
theorem kysP_dp {K : PySem.W.Frag} {H : Hp} : ∀ {l : List Ky} {vs : List V}, RddAll K H vs (l.map kyD) → DpAll K H vs (l.map kyP)
  | [], _, h => by
    cases h
    exact .nil
  | κ :: l, _, h => by
    cases h with
    | cons a b => exact .cons (kyP_dp a) (kysP_dp b)
theorem kyP_lay (κ : Ky) : (kyP κ).canLay0 = true ∧ (kyP κ).depth ≤ 2 := by
  have ⟨h1, h2⟩ := ints_lay κ.2
  have t : PyData.strOk (if κ.1 = true then ("var" : Str) else "node") = true := by
    cases κ.1 with
    | true => rw [if_pos rfl]; decide +kernel
    | false => rw [if_neg Bool.false_ne_true]; decide +kernel
  unfold kyP
  simp only [PyData.canLay0, PyData.canLayAll0, PyData.depth, PyData.depthAll, h1, h2, t]
  exact ⟨rfl, by decide⟩
theorem kyP_shaped (κ : Ky) : SeqAt.shaped (kyP κ) = true := by
  have ⟨h1, h2⟩ := kyP_lay κ
  unfold SeqAt.shaped
  rw [h1, decide_eq_true (by omega : (kyP κ).depth ≤ 64)]
  rfl
theorem kysP_lay : ∀ l : List Ky, PyData.canLayAll0 (l.map kyP) = true ∧ PyData.depthAll (l.map kyP) ≤ 2
  | [] => by simp [PyData.canLayAll0, PyData.depthAll]
  | κ :: l => by
    have ⟨h1, h2⟩ := kysP_lay l
    have ⟨h3, h4⟩ := kyP_lay κ
    rw [List.map_cons, PyData.canLayAll0, PyData.depthAll, h1, h3]
    exact ⟨rfl, by omega⟩
theorem kysP_shaped (l : List Ky) : SeqAt.shaped (.list (l.map kyP)) = true := by
  have ⟨h1, h2⟩ := kysP_lay l
  unfold SeqAt.shaped
  simp only [PyData.canLay0, PyData.depth, h1, Bool.true_and]
  exact decide_eq_true (by omega)
theorem kyP_eqv (a b : Ky) : PyData.eqv (kyP a) (kyP b) = decide (a = b) := by
  have w1 : (("var" : Str) == ("node" : Str)) = false := by decide +kernel
  have w2 : (("node" : Str) == ("var" : Str)) = false := by decide +kernel
  obtain ⟨x, p⟩ := a
  obtain ⟨y, q⟩ := b
  unfold kyP
  simp only [PyData.eqv, PyData.eqvAll, eqv_ints, Bool.and_true]
  cases x <;> cases y
  · show (("node" : Str) == "node" && decide (p = q)) = _
    rw [beq_self_eq_true, Bool.true_and]
    exact decide_eq_decide.mpr ⟨fun h => by rw [h], fun h => (by injection h)⟩
  · show (("node" : Str) == "var" && decide (p = q)) = _
    rw [w2, Bool.false_and]
    exact (decide_eq_false fun h => by injection h with h _; cases h).symm
  · show (("var" : Str) == "node" && decide (p = q)) = _
    rw [w1, Bool.false_and]
    exact (decide_eq_false fun h => by injection h with h _; cases h).symm
  · show (("var" : Str) == "var" && decide (p = q)) = _
    rw [beq_self_eq_true, Bool.true_and]
    exact decide_eq_decide.mpr ⟨fun h => by rw [h], fun h => (by injection h)⟩
theorem kyP_any (κ : Ky) : ∀ l : List Ky, ((l.map kyP).any fun z => PyData.eqv z (kyP κ)) = decide (κ ∈ l)
  | [] => rfl
  | a :: l => by
    rw [List.map_cons, List.any_cons, kyP_any κ l, kyP_eqv]
    by_cases e : a = κ
    · subst e
      rw [decide_eq_true rfl, decide_eq_true List.mem_cons_self, Bool.true_or]
    · rw [decide_eq_false e, Bool.false_or]
      exact decide_eq_decide.mpr ⟨fun h => List.mem_cons_of_mem _ h, fun h => (List.mem_cons.mp h).resolve_left fun z => e z.symm⟩
theorem RddAll.rev {K : PySem.W.Frag} {H : Hp} : ∀ {ds : List D} {vs : List V}, RddAll K H vs ds → RddAll K H vs.reverse ds.reverse
  | [], _, h => by
    cases h
    exact .nil
  | d :: ds, _, h => by
    cases h with
    | cons a b =>
      rw [List.reverse_cons, List.reverse_cons]
      exact b.rev.app' (.cons a .nil)
theorem ne_nilK {K : PySem.W.Frag} {H : Hp} {l p : Addr} {xs : List V} {ks : List Ky} {Q : VK} (hl : H l = some (.lst xs)) (hp : H p = some (.lst [])) (r : RddAll K H xs (ks.map kyD)) (q : Q (.bl (!ks.isEmpty)) H) : rNeD K (.ref l) (.ref p) H Q := by
  refine ⟨.list (ks.map kyP), .list [], .lst (SqL.of hl) (kysP_dp r), .lst (SqL.of hp) .nil, kysP_shaped ks, by rfl, ?_⟩
  have e : PyData.eqv (.list (ks.map kyP)) (.list []) = ks.isEmpty := by
    cases ks with
    | nil => rfl
    | cons _ _ => rfl
  rw [e]
  exact q
section
variable {P : Program} {w : World} {K : PySem.W.Frag} {mg : Str → Option Value} {base : Heap} {fIn fPa fBi fHe fKe : Addr} {fdIn fdPa dBi dHe dKe : FuncData}
def spKeys (K : PySem.W.Frag) : Sp := fun vs H Q _ => ∃ (v : V) (d : D) (n m : Nat), vs = [v] ∧ Rdd K H v d ∧ OpN n d ∧ WfN m [] d ∧ n ≤ 9 ∧ cnt n d ≤ 45 ∧
  ∀ ks p zs H', FWg (kk d) [] [ky d []] ks → Same H H' → H p = none → H' p = some (.lst zs) → RddAll K H' zs (ks.map kyD) → Q (.ref p) H'
theorem ok_keys (T : Lp K mg fIn fPa fdIn fdPa) (Z : Lh K mg fBi fHe fKe dBi dHe dKe) (B : Bt mg) {f : Addr} {fd : FuncData} (F : Fun K "_law_keys" "_law_keys" sKeys f fd) : FnOk P w K mg base CX0 6 f fd ["_law_root"] (spKeys K) := by
  have GI : FnOk P w K mg base CX0 1 fIn fdIn ["_law_part_here"] (spInn K) := ok_inner T B
  have GA : FnOk P w K mg base CX0 2 fPa fdPa ["_law_root", "_law_path"] (spPart K) := ok_part T B
  have GK : FnOk P w K mg base CX0 5 fKe dKe ["_law_root", "_law_path"] (spKey K) := ok_key T Z B
  refine F.ok scKeys (fun vs H Q E h => ?_) (fun cdv A outer s H vs Q E hr h => ?_)
  · obtain ⟨v, d, n, m, rfl, _⟩ := h
    rfl
  · obtain ⟨v, d, n, m, rfl, hv, ho, wf, hn, hc, q⟩ := h
    have h1 := hr.mono (by decide : 1 ≤ 5)
    have h2 := hr.mono (by decide : 2 ≤ 5)
    have hu : (A.deeper (envOfC "_law_keys" (defScope sKeys) s.heap.objs.size f cdv)).units + 65 < cLine := by have := hr.un; omega
    --D
    refine ⟨_, (pss_cons (ps_par (i := 1) (j := 2) (by rfl) scKeys.nd rfl rfl (by decide) rfl rfl (pa_cons (pe_lst pa_nil) (pa_cons (pe_lst (pa_cons (pe_call GK hr (by rfl) Z.gKe Z.FKe.kp Z.bKe .nil pass0 (pa_cons (pv 0) (pa_cons (pe_tup pa_nil) pa_nil))) pa_nil)) pa_nil)) (by rfl))
        (pss_cons (ps_while PassesOwn.never (pt_cmpR (op_neD hr.units) (pv 2) (pe_lst pa_nil) (nomark _))
        (pss_cons (ps_set (i := 3) scKeys.nd rfl (Or.inr rfl) (pe_bm0 PySem.F.plainAttrs_list PySem.F.slot_list_pop PySem.F.type_list_pop mt_pop (pv 2)))
        (pss_one (ps_if (pt_cmpR (op_notInD hu) (pv 3) (pv 1) (by rfl))
          (pss_cons (ps_expr (pe_bm PySem.F.plainAttrs_list PySem.F.slot_list_append PySem.F.type_list_append mt_append (pv 1) (pa_cons (pv 3) pa_nil)))
        (pss_one (ps_if (pt_cmpR op_eq (pe_ix ix_tup (pv 3) pe_int (fun _ _ => rfl)) pe_str (nomark _))
          (pss_cons (ps_set (i := 4) scKeys.nd rfl (Or.inl rfl) (pe_callB call_len_seq (by rfl) B.len PySem.boot_len (pa_cons (pe_call GI h1 (by rfl) T.gIn T.FIn.kp T.bIn .nil pass0 (pa_cons (pe_call GA h2 (by rfl) T.gPa T.FPa.kp T.bPa .nil pass0 (pa_cons (pv 0) (pa_cons (pe_ix ix_tup (pv 3) pe_int (fun _ _ => rfl)) pa_nil))) pa_nil)) pa_nil)))
        (pss_one (ps_expr (pe_bm PySem.F.plainAttrs_list PySem.F.slot_list_extend PySem.F.type_list_extend mt_extend (pv 2) (pa_cons (pe_revL (pe_lc (own := [("_law_spot", 5)]) (g := gName 5) (tt := tYes) (te := tCall (spKey K) [] E0 (tCons (tVar 0) (tCons (tOp (rCatA K) (tOp (rIxT K) (tVar 3) (tC (.int 1))) (tTup (tCons (tVar 5) tNil))) tNil))) rfl scKeys.nd (pi_range1 (by rfl) B.range (pa_cons (pv 4) pa_nil)) (blkOk_by (own := [("_law_spot", 5)]) (N := ["_law_root", "_law_found", "_law_waits", "_law_key_here", "_law_size", "_law_spot"]) (sc := defScope sKeys) (by decide +kernel)) (fun _ _ _ _ _ => pg_name (i := 5) scKeys.nd rfl (Or.inl rfl)) (fun _ _ _ _ _ => pts_nil) (fun _ _ _ _ _ => by exact (pe_call GK hr (by rfl) Z.gKe Z.FKe.kp Z.bKe .nil pass0 (pa_cons (pv 0) (pa_cons (pe_op op_catA (pe_ix ix_tup (pv 3) pe_int (fun _ _ => rfl)) (pe_tup (pa_cons (pv 5) pa_nil))) pa_nil)))))) pa_nil))))) pss_nil))) pss_nil))))
        (pss_one (ps_ret (pv 1))))), ?_⟩
    --E
    have sl := sizeLine_eq
    have hnone : ∀ {G : Hp} {b : Addr}, Same H G → G b = none → H b = none := fun {G b} s n => by
      cases e : H b with
      | none => rfl
      | some o =>
        rw [s _ _ e] at n
        cases n
    have lp : ∀ {z : List Nat}, PathOf z d → z.length ≤ 9 := fun {z} hz => by
      have := (sub_ok hz ho).2
      omega
    refine ⟨(by show 0 ≤ sizeLine; omega), fun f0 nf => ?_⟩
    have s1 := Same.new (o := .lst []) nf
    have hf1 : (upd H f0 (.lst [])) f0 = some (.lst []) := upd_same
    generalize upd H f0 (.lst []) = H1 at s1 hf1 ⊢
    refine ⟨_, rfl, (by show 0 ≤ sizeLine; omega), fun t0 nt0 => ?_⟩
    have s2 := Same.new (o := .tup []) nt0
    have ht2 : (upd H1 t0 (.tup [])) t0 = some (.tup []) := upd_same
    generalize upd H1 t0 (.tup []) = H2 at s2 ht2 ⊢
    have s02 := s1.trans s2
    refine ⟨v, d, t0, [], n, m, rfl, Rdd.ex (Ex.same s02) _ hv, ho, wf, hn, SqT.of ht2, trivial, fun r0 H3 s3 rr0 => ?_⟩
    have s03 := s02.trans s3
    refine ⟨(by show 1 ≤ sizeLine; omega), fun w0 nw => ⟨_, _, rfl, ?_⟩⟩
    have s4 := Same.new (o := .lst [r0]) nw
    have hw4 : (upd H3 w0 (.lst [r0])) w0 = some (.lst [r0]) := upd_same
    have hf4 := (s2.trans (s3.trans s4)) _ _ hf1
    have s04 := s03.trans s4
    have nw0 := hnone s03 nw
    have fw : f0 ≠ w0 := ne_of_none ((s2.trans s3) _ _ hf1) nw
    have rr4 := Rdd.ex (Ex.same s4) _ rr0
    generalize upd H3 w0 (.lst [r0]) = H4 at s04 hw4 hf4 rr4 ⊢
    let Lk : List Ky := (pp n d).map (kyH d)
    refine ⟨fun μ σ G => ∃ (g3 g4 : Option V) (zs ws : List V) (ms st : List Ky), μ = 5 * (cnt n d - ms.length) + st.length ∧ σ = [some v, some (.ref f0), some (.ref w0), g3, g4, none] ∧ Same H G ∧ G f0 = some (.lst zs) ∧ G w0 = some (.lst ws) ∧ RddAll K G zs (ms.map kyD) ∧ RddAll K G ws (st.reverse.map kyD) ∧ ms.Nodup ∧
      (∀ κ ∈ ms, KyOk d κ ∧ κ ∈ Lk) ∧ (∀ κ ∈ st, KyOk d κ ∧ κ ∈ Lk) ∧ st.length ≤ 4 * ms.length + 1 ∧ ∀ o, FWg (kk d) ms st o → FWg (kk d) [] [ky d []] o,
      ⟨_, none, none, [], [r0], [], [ky d []], rfl, rfl, s04, hf4, hw4, .nil, .cons rr4 .nil, .nil, (by simp), (fun κ h => by rw [List.mem_singleton.mp h]; exact ⟨ky_ok wf (w := []) trivial, ky_in ho wf (w := []) trivial⟩), (by simp), fun o h => h⟩, ?_⟩
    rintro μ σ G ⟨g3, g4, zs, ws, ms, st, rfl, rfl, sG, hf, hw, rz, rw', ndm, okm, oks, l4, fwo⟩
    have lm := keys_len ho ndm fun κ h => (okm κ h).2
    refine ⟨_, rfl, (by show 0 ≤ sizeLine; omega), fun e0 ne0 => ?_⟩
    have se := Same.new (o := .lst []) ne0
    have he0 : (upd G e0 (.lst [])) e0 = some (.lst []) := upd_same
    generalize upd G e0 (.lst []) = G1 at se he0 ⊢
    have sG1 := sG.trans se
    have hf1 := se _ _ hf
    have hw1 := se _ _ hw
    have rz1 := RddAll.ex (Ex.same se) _ rz
    have rw1 := RddAll.ex (Ex.same se) _ rw'
    refine ne_nilK hw1 he0 rw1 ⟨_, rfl, ?_⟩
    cases st with
    | nil =>
      exact iteF ⟨_, rfl, q ms f0 zs G1 (fwo ms .nil) sG1 nf hf1 rz1⟩
    | cons κ st =>
      have oκ := oks κ List.mem_cons_self
      rw [show (!(κ :: st).reverse.isEmpty) = true by simp]
      rw [List.reverse_cons, List.map_append] at rw1
      obtain ⟨ws0, x, rfl, rw0, rx⟩ := rw1.unsnoc
      refine iteT ⟨fun σ2 G2 => ∃ (ms2 st2 : List Ky), 5 * (cnt n d - ms2.length) + st2.length < 5 * (cnt n d - ms.length) + (κ :: st).length ∧ ∃ (g3 g4 : Option V) (zs ws : List V), σ2 = [some v, some (.ref f0), some (.ref w0), g3, g4, none] ∧ Same H G2 ∧ G2 f0 = some (.lst zs) ∧ G2 w0 = some (.lst ws) ∧ RddAll K G2 zs (ms2.map kyD) ∧ RddAll K G2 ws (st2.reverse.map kyD) ∧ ms2.Nodup ∧
        (∀ κ ∈ ms2, KyOk d κ ∧ κ ∈ Lk) ∧ (∀ κ ∈ st2, KyOk d κ ∧ κ ∈ Lk) ∧ st2.length ≤ 4 * ms2.length + 1 ∧ ∀ o, FWg (kk d) ms2 st2 o → FWg (kk d) [] [ky d []] o, ?_, ?_⟩
      · rintro σ2 G2 ⟨ms2, st2, l2, g3, g4, zs, ws, rest⟩
        exact ⟨_, l2, g3, g4, zs, ws, ms2, st2, rfl, rest⟩
      refine ⟨_, rfl, .inl ⟨rfl, _, SqL.of hw1⟩, w0, _, x, rfl, rfl, hw1, by simp, ?_⟩
      rw [List.dropLast_concat]
      have x2 : Ex G1 (upd G1 w0 (.lst ws0)) := (Off.put (a := w0)).ex hw1 upd_same
      have sG2 : Same H (upd G1 w0 (.lst ws0)) := jr_same.put sG1 nw0
      have hf2 : (upd G1 w0 (.lst ws0)) f0 = some (.lst zs) := by rw [upd_ne fw]; exact hf1
      have hw2 : (upd G1 w0 (.lst ws0)) w0 = some (.lst ws0) := upd_same
      generalize upd G1 w0 (.lst ws0) = G2 at x2 sG2 hf2 hw2 ⊢
      have rz2 := RddAll.ex x2 _ rz1
      have rw2 := RddAll.ex x2 _ rw0
      have rx2 := Rdd.ex x2 _ rx
      refine ⟨_, rfl, _, rfl, kyP κ, ms.map kyP, kyP_dp rx2, .lst (SqL.of hf2) (kysP_dp rz2), kyP_shaped κ, kysP_shaped ms, ?_⟩
      rw [kyP_any]
      have lw : ws0.length = st.length := by rw [rw0.length, List.length_map, List.length_reverse]
      have lz : zs.length = ms.length := by rw [rz.length, List.length_map]
      rw [List.length_cons] at l4 ⊢
      by_cases km : κ ∈ ms
      · rw [decide_eq_true km]
        exact ⟨_, rfl, iteF ⟨ms, st, by omega, _, _, zs, ws0, rfl, sG2, hf2, hw2, rz2, rw2, ndm, okm, (fun γ h => oks γ (List.mem_cons_of_mem _ h)), by omega, fun o h => fwo o (.old km h)⟩⟩
      · rw [decide_eq_false km]
        have ndm2 : (ms ++ [κ]).Nodup := List.nodup_append.mpr ⟨ndm, by simp, fun a ha b hb => by
          rw [List.mem_singleton.mp hb]
          exact fun z => km (z ▸ ha)⟩
        have okm2 : ∀ γ ∈ ms ++ [κ], KyOk d γ ∧ γ ∈ Lk := fun γ h => by
          rcases List.mem_append.mp h with h | h
          · exact okm γ h
          · rw [List.mem_singleton.mp h]
            exact oκ
        have lm2 := keys_len ho ndm2 fun γ h => (okm2 γ h).2
        rw [List.length_append, List.length_singleton] at lm2
        refine ⟨_, rfl, iteT ⟨_, rfl, .inl ⟨rfl, _, SqL.of hf2⟩, x, rfl, f0, zs, _, rfl, rfl, hf2, by omega, ?_⟩⟩
        have x3 : Ex G2 (upd G2 f0 (.lst (zs ++ [x]))) := (Off.put (a := f0)).ex hf2 upd_same
        have sG3 : Same H (upd G2 f0 (.lst (zs ++ [x]))) := jr_same.put sG2 nf
        have hf3 : (upd G2 f0 (.lst (zs ++ [x]))) f0 = some (.lst (zs ++ [x])) := upd_same
        have hw3 : (upd G2 f0 (.lst (zs ++ [x]))) w0 = some (.lst ws0) := by rw [upd_ne (Ne.symm fw)]; exact hw2
        generalize upd G2 f0 (.lst (zs ++ [x])) = G3 at x3 sG3 hf3 hw3 ⊢
        have rz3 := (RddAll.ex x3 _ rz2).snoc (Rdd.ex x3 _ rx2)
        have rw3 := RddAll.ex x3 _ rw2
        have rx3 := Rdd.ex x3 _ rx2
        obtain ⟨a, t, rfl, ha, ht⟩ := kyD_out rx3
        have rz3' : RddAll K G3 (zs ++ [V.ref a]) ((ms ++ [κ]).map kyD) := by
          rw [List.map_append]
          exact rz3
        refine ⟨_, rfl, a, _, (0 : Int), _, rfl, rfl, ha, atI_nat (j := 0) rfl, rfl, _, rfl, ?_⟩
        rw [str_dec]
        obtain ⟨b, p⟩ := κ
        cases b with
        | true =>
          rw [decide_eq_false (by rw [if_pos rfl]; decide +kernel)]
          refine iteF ⟨ms ++ [(true, p)], st, by rw [List.length_append, List.length_singleton]; omega, _, _, _, ws0, rfl, sG3, hf3, hw3, rz3', rw3, ndm2, okm2, (fun γ h => oks γ (List.mem_cons_of_mem _ h)), by rw [List.length_append, List.length_singleton]; omega, fun o h => fwo o (.new km (by rw [kk_var]; exact h))⟩
        | false =>
          rw [decide_eq_true (by rw [if_neg Bool.false_ne_true])]
          refine iteT ?_
          have hp : PathOf p d := oκ.1.1
          refine ⟨_, rfl, _, rfl, a, _, (1 : Int), _, rfl, rfl, ha, atI_nat (j := 1) rfl, v, d, t, p, n, rfl, Rdd.ex (Ex.same sG3) _ hv, ho, ht, hp, fun r4 G4 s4 rr4 => ?_⟩
          have bt : built (subD p d) = true ∧ (inn (subD p d)).length ≤ 4 := by
            obtain ⟨o1, l1⟩ := sub_ok hp ho
            obtain ⟨m1, hm1⟩ : ∃ m1, n - p.length = m1 + 1 := ⟨n - p.length - 1, by omega⟩
            rw [hm1] at o1
            exact (OpN.s.mp o1).1
          refine ⟨r4, subD p d, rfl, rr4, bt.1, fun r5 G5 s5 rr5 => ?_⟩
          obtain ⟨b5, us, rfl, hb5, hus, _⟩ := rr5.tupd'
          have lus := hus.length
          have s35 := s4.trans s5
          refine ⟨b5, us, rfl, .inr hb5, ?_⟩
          refine ⟨_, rfl, .inl ⟨rfl, _, SqL.of (s35 _ _ hw3)⟩, _, rfl, us.length, rfl, by omega, by omega, fun D0 nD => ?_⟩
          refine lcJR (K := K) (J := Same) (Pd := fun i x => x = kyD (ky d (p ++ [i]))) jr_same (Same.refl _) (by omega) nD ?_ ?_
          · intro i H9 Q9 Z9 hi s9 hQ
            refine ⟨rfl, ?_⟩
            have s39 := s35.trans s9
            refine iteT (B := Z9 H9) ⟨_, rfl, _, rfl, a, _, (1 : Int), _, rfl, rfl, (Ex.same s39).tup ha, atI_nat (j := 1) rfl, _, rfl, (by show 1 ≤ sizeLine; omega), fun a9 na => ?_⟩
            have sa := Same.new (o := .tup [V.int (0 + (i : Int))]) na
            rw [show (0 : Int) + (i : Int) = ((i : Nat) : Int) by omega] at sa ⊢
            have ha9 : (upd H9 a9 (.tup [V.int (i : Nat)])) a9 = some (.tup [V.int (i : Nat)]) := upd_same
            generalize upd H9 a9 (.tup [V.int (i : Nat)]) = Ha at sa ha9 ⊢
            have s3a := s39.trans sa
            refine cat1 ((Ex.same s3a).tup ht) (SqT.of ha9) (by have := lp hp; show p.length ≤ 1000; omega) fun t9 Hb sb ht9 => ?_
            have psn := path_snoc hp (List.getElem?_eq_getElem (show i < (inn (subD p d)).length by omega))
            refine ⟨v, d, t9, p ++ [i], n, m, rfl, Rdd.ex (Ex.same ((sG3.trans s3a).trans sb)) _ hv, ho, wf, hn, ht9, psn.1, fun r H' s' rr => ?_⟩
            exact hQ _ _ _ ((sa.trans sb).trans s') rr rfl
          · intro H9 accs ds s9 hD ra la hds
            have eds : ds = (kk d (false, p)).map kyD := by
              rw [kk_node, List.map_map]
              refine List.ext_getElem? fun i => ?_
              rw [List.getElem?_map]
              by_cases hi : i < us.length
              · rw [List.getElem?_range (by omega), List.getElem?_eq_getElem (show i < ds.length by omega)]
                exact congrArg some (hds i _ (List.getElem?_eq_getElem (show i < ds.length by omega)))
              · rw [List.getElem?_eq_none (by omega), List.getElem?_eq_none (by rw [List.length_range]; omega)]
                rfl
            subst eds
            have lk : (kk d (false, p)).length = us.length := by
              rw [kk_node, List.length_map, List.length_range, lus]
            refine ⟨D0, accs, rfl, SqL.of hD, fun p1 np1 => ?_⟩
            have s6 := Same.new (o := .lst accs.reverse) np1
            have hp1 : (upd H9 p1 (.lst accs.reverse)) p1 = some (.lst accs.reverse) := upd_same
            have s39 := (s35.trans s9).trans s6
            have ra6 := RddAll.ex (Ex.same s6) _ ra
            generalize upd H9 p1 (.lst accs.reverse) = G6 at s39 hp1 ra6 ⊢
            have hw6 := s39 _ _ hw3
            have lac : accs.length = us.length := by rw [ra.length, List.length_map, lk]
            refine ⟨w0, p1, ws0, accs.reverse, rfl, rfl, hw6, hp1, by rw [List.length_reverse]; omega, ?_⟩
            have xA : Ex G6 (upd G6 w0 (.lst (ws0 ++ accs.reverse))) := (Off.put (a := w0)).ex hw6 upd_same
            refine ⟨ms ++ [(false, p)], kk d (false, p) ++ st, by simp only [List.length_append, List.length_cons, List.length_nil]; omega, _, _, _, _, rfl, jr_same.put (sG3.trans s39) nw0, by rw [upd_ne fw]; exact s39 _ _ hf3, upd_same, RddAll.ex xA _ (RddAll.ex (Ex.same s39) _ rz3'), ?_, ndm2, okm2, ?_, by simp only [List.length_append, List.length_cons, List.length_nil]; omega, fun o h => fwo o (.new km h)⟩
            · rw [List.reverse_append, List.map_append]
              refine (RddAll.ex xA _ (RddAll.ex (Ex.same s39) _ rw3)).app' ?_
              rw [List.map_reverse]
              exact RddAll.ex xA _ ra6.rev
            · intro γ h
              rcases List.mem_append.mp h with h | h
              · exact ⟨kk_ok wf oκ.1 γ h, kk_in ho wf oκ.1 γ h⟩
              · exact oks γ (List.mem_cons_of_mem _ h)
end
end Sl

set_option Elab.async false
set_option linter.all false
set_option maxRecDepth 100000
set_option maxHeartbeats 400000
/-! ## _law_graph -/
namespace Sl
open PySem PySem.Spec PyProof.Rows L2
abbrev sGraph : Stmt := topT 47
theorem scGraph : FnScope ["_law_root", "_law_keys_here", "_law_found", "_law_sort", "_law_path", "_law_part_here", "_law_below_here", "_law_spot"] ["_law_root"] (defScope sGraph) := ⟨rfl, rfl, rfl, by decide +kernel, rfl, by decide +kernel, by decide +kernel⟩
/-- where a key stands -/
theorem ky_index {K : PySem.W.Frag} {G : Hp} {a : Addr} {zs : List V} {y : V} {ks : List Ky} {κ : Ky} {Q : VK} (ha : G a = some (.lst zs)) (rz : RddAll K G zs (ks.map kyD)) (ry : Rdd K G y (kyD κ)) (hm : κ ∈ ks) (q : Q (.int (ks.idxOf κ : Nat)) G) : rIndexD K (.ref a) [y] G Q := by
  have hk := idx_at hm
  refine ⟨a, y, kyP κ, ks.map kyP, ks.idxOf κ, kyP κ, rfl, rfl, .lst (SqL.of ha) (kysP_dp rz), kyP_dp ry, kysP_shaped ks, kyP_shaped κ, (by rw [List.getElem?_map, hk]; rfl), (by rw [kyP_eqv]; exact decide_eq_true rfl), (fun j z hj hz => ?_), q⟩
  rw [List.getElem?_map] at hz
  obtain ⟨γ, hg, rfl⟩ := Option.map_eq_some_iff.mp hz
  rw [kyP_eqv]
  exact decide_eq_false fun e => idx_first hj (e ▸ hg)
section
variable {P : Program} {w : World} {K : PySem.W.Frag} {mg : Str → Option Value} {base : Heap} {fIn fPa fBi fHe fKe fKs : Addr} {fdIn fdPa dBi dHe dKe dKs : FuncData}
def spGraph (K : PySem.W.Frag) : Sp := fun vs H Q _ => ∃ (v : V) (d : D) (n m : Nat), vs = [v] ∧ Rdd K H v d ∧ OpN n d ∧ WfN m [] d ∧ n ≤ 9 ∧ cnt n d ≤ 45 ∧
  ∀ ns p zs H', GT ns → Same H H' → H p = none → H' p = some (.lst zs) → RddAll K H' zs (ns.map ndD) → Q (.ref p) H'
theorem ok_graph (T : Lp K mg fIn fPa fdIn fdPa) (Z : Lh K mg fBi fHe fKe dBi dHe dKe) (B : Bt mg) (FKs : Fun K "_law_keys" "_law_keys" sKeys fKs dKs) (bKs : Binds K dKs ["_law_root"] []) (gKs : mg "_law_keys" = some (.ref fKs)) {f : Addr} {fd : FuncData} (F : Fun K "_law_graph" "_law_graph" sGraph f fd) : FnOk P w K mg base CX0 7 f fd ["_law_root"] (spGraph K) := by
  have GI : FnOk P w K mg base CX0 1 fIn fdIn ["_law_part_here"] (spInn K) := ok_inner T B
  have GA : FnOk P w K mg base CX0 2 fPa fdPa ["_law_root", "_law_path"] (spPart K) := ok_part T B
  have GK : FnOk P w K mg base CX0 5 fKe dKe ["_law_root", "_law_path"] (spKey K) := ok_key T Z B
  have GS : FnOk P w K mg base CX0 6 fKs dKs ["_law_root"] (spKeys K) := ok_keys T Z B FKs
  refine F.ok scGraph (fun vs H Q E h => ?_) (fun cdv A outer s H vs Q E hr h => ?_)
  · obtain ⟨v, d, n, m, rfl, _⟩ := h
    rfl
  · obtain ⟨v, d, n, m, rfl, hv, ho, wf, hn, hc, q⟩ := h
    have h1 := hr.mono (by decide : 1 ≤ 6)
    have h2 := hr.mono (by decide : 2 ≤ 6)
    have h5 := hr.mono (by decide : 5 ≤ 6)
    have hu : (A.deeper (envOfC "_law_graph" (defScope sGraph) s.heap.objs.size f cdv)).units + 65 < cLine := by have := hr.un; omega
    --D
    refine ⟨_, (pss_cons (ps_asg (pe_tup (pa_cons (pe_call GS hr (by rfl) gKs FKs.kp bKs .nil pass0 (pa_cons (pv 0) pa_nil)) (pa_cons (pe_lst pa_nil) pa_nil))) (pg_tup rfl (pgs_cons (pg_name (i := 1) scGraph.nd rfl (Or.inr rfl)) (pgs_cons (pg_name (i := 2) scGraph.nd rfl (Or.inl rfl)) pgs_nil))))
        (pss_cons (ps_for PassesOwn.never rfl (pi_list (pv 1)) (pg_tup rfl (pgs_cons (pg_name (i := 3) scGraph.nd rfl (Or.inl rfl)) (pgs_cons (pg_name (i := 4) scGraph.nd rfl (Or.inr rfl)) pgs_nil)))
          (pss_cons (ps_set (i := 5) scGraph.nd rfl (Or.inl rfl) (pe_call GA h2 (by rfl) T.gPa T.FPa.kp T.bPa .nil pass0 (pa_cons (pv 0) (pa_cons (pv 4) pa_nil))))
        (pss_cons (ps_setLc (i := 6) (own := [("_law_spot", 7)]) (g := gName 7) (tt := tYes) (te := tBM K "list" (rIndexD K) (tVar 1) (tCons (tCall (spKey K) [] E0 (tCons (tVar 0) (tCons (tOp (rCatA K) (tVar 4) (tTup (tCons (tVar 7) tNil))) tNil))) tNil)) rfl scGraph.nd rfl rfl (sw_true rfl rfl rfl (by decide +kernel)) (pi_range1 (by rfl) B.range (pa_cons (pe_callB call_len_seq (by rfl) B.len PySem.boot_len (pa_cons (pe_call GI h1 (by rfl) T.gIn T.FIn.kp T.bIn .nil pass0 (pa_cons (pv 5) pa_nil)) pa_nil)) pa_nil)) (blkOk_by (own := [("_law_spot", 7)]) (N := ["_law_root", "_law_keys_here", "_law_found", "_law_sort", "_law_path", "_law_part_here", "_law_below_here", "_law_spot"]) (sc := defScope sGraph) (by decide +kernel)) (fun _ _ _ _ _ => pg_name (i := 7) scGraph.nd rfl (Or.inl rfl)) (fun _ _ _ _ _ => pts_nil) (fun _ _ _ _ _ => by exact (pe_bm PySem.F.plainAttrs_list PySem.F.slot_list_index PySem.F.type_list_index (mt_indexD hu) (pv 1) (pa_cons (pe_call GK h5 (by rfl) Z.gKe Z.FKe.kp Z.bKe .nil pass0 (pa_cons (pv 0) (pa_cons (pe_op op_catA (pv 4) (pe_tup (pa_cons (pv 7) pa_nil))) pa_nil))) pa_nil))))
        (pss_one (ps_if (pt_cmpR op_eq (pv 3) pe_str (nomark _))
          (pss_one (ps_expr (pe_bm PySem.F.plainAttrs_list PySem.F.slot_list_append PySem.F.type_list_append mt_append (pv 2) (pa_cons (pe_tup (pa_cons pe_str (pa_cons (pe_bm PySem.F.plainAttrs_list PySem.F.slot_list_index PySem.F.type_list_index (mt_indexD hu) (pv 1) (pa_cons (pe_tup (pa_cons pe_str (pa_cons (pv 4) pa_nil))) pa_nil)) pa_nil))) pa_nil)))) (pss_one (ps_if (pt_cmpR op_eq (pe_ix ix_tup (pv 5) pe_int (fun _ _ => rfl)) pe_str (nomark _))
          (pss_one (ps_expr (pe_bm PySem.F.plainAttrs_list PySem.F.slot_list_append PySem.F.type_list_append mt_append (pv 2) (pa_cons (pe_tup (pa_cons pe_str (pa_cons (pe_ix ix_list (pv 6) pe_int (fun _ _ => rfl)) pa_nil))) pa_nil)))) (pss_one (ps_expr (pe_bm PySem.F.plainAttrs_list PySem.F.slot_list_append PySem.F.type_list_append mt_append (pv 2) (pa_cons (pe_tup (pa_cons pe_str (pa_cons (pe_ix ix_tup (pv 5) pe_int (fun _ _ => rfl)) (pa_cons (pe_callTy call_tuple_of (by rfl) B.tuple (by decide +kernel) (pa_cons (pv 6) pa_nil)) pa_nil)))) pa_nil)))))))))))
        (pss_one (ps_ret (pv 2))))), ?_⟩
    --E
    have sl := sizeLine_eq
    have hnone : ∀ {G : Hp} {b : Addr}, Same H G → G b = none → H b = none := fun {G b} s n => by
      cases e : H b with
      | none => rfl
      | some o =>
        rw [s _ _ e] at n
        cases n
    have lp : ∀ {z : List Nat}, PathOf z d → z.length ≤ 9 := fun {z} hz => by
      have := (sub_ok hz ho).2
      omega
    refine ⟨_, rfl, v, d, n, m, rfl, hv, ho, wf, hn, hc, fun ks k0 kz H1 fw s1 nk hk rk => ?_⟩
    have lkz : kz.length = ks.length := by rw [rk.length, List.length_map]
    have gtk := gt_ok ho wf fw hc
    have lks : ks.length ≤ 45 := by
      have := gtk.big
      rw [gt_len] at this
      exact this
    refine ⟨(by show 0 ≤ sizeLine; omega), fun l nl => ?_⟩
    have s2 := Same.new (o := .lst []) nl
    have hl2 : (upd H1 l (.lst [])) l = some (.lst []) := upd_same
    generalize upd H1 l (.lst []) = H2 at s2 hl2 ⊢
    refine ⟨(by show 2 ≤ sizeLine; omega), fun tp ntp => ?_⟩
    have s3 := Same.new (o := .tup [V.ref k0, V.ref l]) ntp
    have hp3 : (upd H2 tp (.tup [V.ref k0, V.ref l])) tp = some (.tup [V.ref k0, V.ref l]) := upd_same
    have hl3 := s3 _ _ hl2
    have s13 := s2.trans s3
    generalize upd H2 tp (.tup [V.ref k0, V.ref l]) = H3 at s3 hp3 hl3 s13 ⊢
    refine ⟨tp, _, rfl, SqT.of hp3, rfl, _, _, rfl, _, _, rfl, rfl, ?_⟩
    refine ⟨_, rfl, k0, rfl, ⟨_, SqL.of (s13 _ _ hk)⟩, ?_⟩
    refine for_list (xs := kz) (fun i σ G => ∃ (g3 g4 g5 g6 : Option V) (zs : List V), σ = [some v, some (.ref k0), some (.ref l), g3, g4, g5, g6, none] ∧ Same H1 G ∧ G l = some (.lst zs) ∧ RddAll K G zs (((gt d ks).take i).map ndD)) ⟨none, none, none, none, [], rfl, s13, hl3, .nil⟩ ?_ ?_ ?_
    · rintro i σ G _ ⟨g3, g4, g5, g6, zs, rfl, sG, hl, rz⟩
      exact SqL.of (sG _ _ hk)
    · rintro i x σ G hx ⟨g3, g4, g5, g6, zs, rfl, sG, hl, rz⟩
      obtain ⟨dk, hdk, rx⟩ := rk.get hx
      rw [List.getElem?_map] at hdk
      obtain ⟨κ, hκ, rfl⟩ := Option.map_eq_some_iff.mp hdk
      have hi := (List.getElem?_eq_some_iff.mp hκ).1
      have lzs : zs.length = i := by rw [rz.length, List.length_map, List.length_take, gt_len]; omega
      have hmem := List.mem_of_getElem? hκ
      have okκ := ks_ok wf fw κ hmem
      have eg : (gt d ks)[i]? = some (ndOf d ks κ) := gt_at hκ
      obtain ⟨b, p⟩ := κ
      have hp : PathOf p d := okκ.1
      have hnode : (false, p) ∈ ks := by
        cases b with
        | true => exact var_met wf fw hmem
        | false => exact hmem
      obtain ⟨a, t, rfl, ha, ht⟩ := kyD_out (Rdd.ex (Ex.same sG) _ rx)
      have snoc : ∀ {G4 : Hp} {zs2 : List V} {x : V}, RddAll K G4 zs (((gt d ks).take i).map ndD) → Rdd K G4 x (ndD (ndOf d ks (b, p))) → RddAll K G4 (zs ++ [x]) (((gt d ks).take (i + 1)).map ndD) := fun {G4 zs2 x} h1 h2 => by
        rw [List.take_add_one, eg, List.map_append]
        exact h1.app' (.cons h2 .nil)
      refine ⟨a, _, rfl, ha, rfl, _, _, rfl, _, _, rfl, rfl, ?_⟩
      have sHG := s1.trans sG
      refine ⟨_, rfl, _, rfl, v, d, t, p, n, rfl, Rdd.ex (Ex.same sHG) _ hv, ho, ht, hp, fun r3 G3 s3 rr3 => ?_⟩
      have bt : built (subD p d) = true ∧ (inn (subD p d)).length ≤ 4 := by
        obtain ⟨o1, l1⟩ := sub_ok hp ho
        obtain ⟨m1, hm1⟩ : ∃ m1, n - p.length = m1 + 1 := ⟨n - p.length - 1, by omega⟩
        rw [hm1] at o1
        exact (OpN.s.mp o1).1
      refine ⟨_, rfl, r3, subD p d, rfl, rr3, bt.1, fun r5 G5 s5 rr5 => ?_⟩
      obtain ⟨b5, us, rfl, hb5, hus, _⟩ := rr5.tupd'
      have lus := hus.length
      have sG5 := s3.trans s5
      refine ⟨b5, us, rfl, .inr hb5, us.length, rfl, by omega, by omega, fun D0 nD => ?_⟩
      refine lcJR (K := K) (J := Same) (Pd := fun i x => x = D.int (ks.idxOf (ky d (p ++ [i])) : Nat)) jr_same (Same.refl _) (by omega) nD ?_ ?_
      · intro j H9 Q9 Z9 hj s9 hQ
        refine ⟨rfl, ?_⟩
        have s39 := sG5.trans s9
        refine iteT (B := Z9 H9) ⟨_, rfl, .inl ⟨rfl, _, SqL.of ((sG.trans s39) _ _ hk)⟩, _, rfl, _, rfl, _, rfl, (by show 1 ≤ sizeLine; omega), fun a9 na => ?_⟩
        have sa := Same.new (o := .tup [V.int (0 + (j : Int))]) na
        rw [show (0 : Int) + (j : Int) = ((j : Nat) : Int) by omega] at sa ⊢
        have ha9 : (upd H9 a9 (.tup [V.int (j : Nat)])) a9 = some (.tup [V.int (j : Nat)]) := upd_same
        generalize upd H9 a9 (.tup [V.int (j : Nat)]) = Ha at sa ha9 ⊢
        have s3a := s39.trans sa
        refine cat1 ((Ex.same s3a).tup ht) (SqT.of ha9) (by have := lp hp; show p.length ≤ 1000; omega) fun t9 Hb sb ht9 => ?_
        have hji : j < (inn (subD p d)).length := by omega
        have psn := path_snoc hp (List.getElem?_eq_getElem hji)
        refine ⟨v, d, t9, p ++ [j], n, m, rfl, Rdd.ex (Ex.same ((sHG.trans s3a).trans sb)) _ hv, ho, wf, hn, ht9, psn.1, fun r H' s' rr => ?_⟩
        have sall := (s3a.trans sb).trans s'
        refine ky_index ((sG.trans sall) _ _ hk) (RddAll.ex (Ex.same (sG.trans sall)) _ rk) rr (ks_closed fw _ hnode _ (List.mem_map.mpr ⟨j, List.mem_range.mpr hji, rfl⟩)) ?_
        exact hQ _ _ _ ((sa.trans sb).trans s') (.int _) rfl
      · intro H9 accs ds s9 hD ra la hds
        have eds : ds = iD ((kk d (false, p)).map ks.idxOf) := by
          unfold iD
          rw [kk_node, List.map_map, List.map_map]
          refine List.ext_getElem? fun i => ?_
          rw [List.getElem?_map]
          by_cases hi : i < us.length
          · rw [List.getElem?_range (by omega), List.getElem?_eq_getElem (show i < ds.length by omega)]
            exact congrArg some (hds i _ (List.getElem?_eq_getElem (show i < ds.length by omega)))
          · rw [List.getElem?_eq_none (by omega), List.getElem?_eq_none (by rw [List.length_range]; omega)]
            rfl
        subst eds
        have eac := iD_ints ra
        have s39 := sG5.trans s9
        have sG9 := sG.trans s39
        have hl9 := s39 _ _ hl
        have rz9 := RddAll.ex (Ex.same s39) _ rz
        refine ⟨_, rfl, rfl, _, rfl, ?_⟩
        rw [str_dec]
        -- one more node
        have done : ∀ {G4 : Hp} {x : V} {g3 g4 g5 g6 : Option V}, Same H9 G4 → Rdd K G4 x (ndD (ndOf d ks (b, p))) → ∃ (g3' g4' g5' g6' : Option V) (zs2 : List V), [some v, some (.ref k0), some (.ref l), g3, g4, g5, g6, none] = [some v, some (.ref k0), some (.ref l), g3', g4', g5', g6', none] ∧ Same H1 (upd G4 l (.lst (zs ++ [x]))) ∧ (upd G4 l (.lst (zs ++ [x]))) l = some (.lst zs2) ∧ RddAll K (upd G4 l (.lst (zs ++ [x]))) zs2 (((gt d ks).take (i + 1)).map ndD) := fun {G4 x g3 g4 g5 g6} s4 rx4 => by
          have hl4 := s4 _ _ hl9
          have xA : Ex G4 (upd G4 l (.lst (zs ++ [x]))) := (Off.put (a := l)).ex hl4 upd_same
          exact ⟨g3, g4, g5, g6, zs ++ [x], rfl, jr_same.put (sG9.trans s4) nl, upd_same, snoc (zs2 := zs) (RddAll.ex xA _ (RddAll.ex (Ex.same s4) _ rz9)) (Rdd.ex xA _ rx4)⟩
        cases b with
        | true =>
          rw [decide_eq_true (by rw [if_pos rfl])]
          refine iteT ⟨_, rfl, .inl ⟨rfl, _, SqL.of hl9⟩, _, rfl, .inl ⟨rfl, _, SqL.of (sG9 _ _ hk)⟩, _, rfl, (by show 2 ≤ sizeLine; omega), fun a1 n1 => ?_⟩
          have s10 := Same.new (o := .tup [V.str "node", .ref t]) n1
          have h10 : (upd H9 a1 (.tup [V.str "node", .ref t])) a1 = some (.tup [V.str "node", .ref t]) := upd_same
          generalize upd H9 a1 (.tup [V.str "node", .ref t]) = Ha at s10 h10 ⊢
          unfold tNil
          dsimp only
          refine ky_index (κ := (false, p)) ((sG9.trans s10) _ _ hk) (RddAll.ex (Ex.same (sG9.trans s10)) _ rk) (.tup (SqT.of h10) (.cons (.str _) (.cons (tup_pd ((Ex.same (s39.trans s10)).tup ht) (by have := lp hp; show p.length ≤ 1000; omega)) .nil)) (by simp)) hnode ?_
          refine ⟨(by show 2 ≤ sizeLine; omega), fun a2 n2 => ⟨l, zs, _, rfl, rfl, ?_, by omega, ?_⟩⟩
          · rw [upd_ne (ne_of_none (s10 _ _ hl9) n2)]
            exact s10 _ _ hl9
          · have s11 := Same.new (o := .tup [V.str "var", .int (ks.idxOf (false, p) : Nat)]) n2
            refine done (s10.trans s11) ?_
            rw [nd_var]
            exact .tup (SqT.of upd_same) (.cons (.str _) (.cons (.int _) .nil)) (by simp)
        | false =>
          rw [decide_eq_false (by rw [if_neg Bool.false_ne_true]; decide +kernel)]
          refine iteF ?_
          have rr9 := Rdd.ex (Ex.same (s5.trans s9)) _ rr3
          rcases okκ.2 with ⟨_, x, cs, e⟩ | ⟨x, b, e⟩
          · have e : subD p d = mkW x cs := e
            rw [e] at rr9
            obtain ⟨c0, ys, rfl, hc0, hys, _⟩ := rr9.tupd'
            obtain ⟨y1, y2, y3, rfl, r1, r2, r3⟩ := hys.trip
            cases r1
            cases r2
            refine ⟨_, rfl, c0, _, (0 : Int), _, rfl, rfl, hc0, atI_nat (j := 0) rfl, rfl, _, rfl, ?_⟩
            rw [str_dec, decide_eq_false (by decide +kernel : ¬ ("word" : Str) = "fun")]
            refine iteF ⟨_, rfl, .inl ⟨rfl, _, SqL.of hl9⟩, _, rfl, c0, _, (1 : Int), _, rfl, rfl, hc0, atI_nat (j := 1) rfl, _, rfl, D0, accs, rfl, .inl ⟨SqL.of hD, fun p1 np1 => ?_⟩⟩
            have s10 := Same.new (o := .tup accs) np1
            have h10 : (upd H9 p1 (.tup accs)) p1 = some (.tup accs) := upd_same
            generalize upd H9 p1 (.tup accs) = Ha at s10 h10 ⊢
            refine ⟨(by show 3 ≤ sizeLine; omega), fun a2 n2 => ⟨l, zs, _, rfl, rfl, ?_, by omega, ?_⟩⟩
            · rw [upd_ne (ne_of_none (s10 _ _ hl9) n2)]
              exact s10 _ _ hl9
            · have s11 := Same.new (o := .tup [V.str "word", .str x, .ref p1]) n2
              refine done (s10.trans s11) ?_
              rw [nd_word e]
              have s0 := s10.trans s11
              refine .tup (SqT.of upd_same) (.cons (.str _) (.cons (.str _) (.cons (.tup (SqT.of (s11 _ _ h10)) (RddAll.ex (Ex.same s0) _ ra) ?_) .nil))) (by simp)
              unfold iD
              rw [List.length_map, List.length_map, kk_node, List.length_map, List.length_range]
              omega
          · have e : subD p d = mkF x b := e
            rw [e] at rr9
            obtain ⟨c0, ys, rfl, hc0, hys, _⟩ := rr9.tupd'
            obtain ⟨y1, y2, y3, rfl, r1, r2, r3⟩ := hys.trip
            cases r1
            refine ⟨_, rfl, c0, _, (0 : Int), _, rfl, rfl, hc0, atI_nat (j := 0) rfl, rfl, _, rfl, ?_⟩
            rw [str_dec, decide_eq_true rfl]
            rw [kk_fun e] at eac
            refine iteT ⟨_, rfl, .inl ⟨rfl, _, SqL.of hl9⟩, _, rfl, D0, accs, (0 : Int), .int (ks.idxOf (ky d (p ++ [0])) : Nat), rfl, rfl, SqL.of hD, (by rw [eac]; exact atI_nat (j := 0) rfl), (by show 2 ≤ sizeLine; omega), fun a2 n2 => ⟨l, zs, _, rfl, rfl, ?_, by omega, ?_⟩⟩
            · rw [upd_ne (ne_of_none hl9 n2)]
              exact hl9
            · have s11 := Same.new (o := .tup [V.str "fun", .int (ks.idxOf (ky d (p ++ [0])) : Nat)]) n2
              refine done s11 ?_
              rw [nd_fun e]
              exact .tup (SqT.of upd_same) (.cons (.str _) (.cons (.int _) .nil)) (by simp)
    · rintro σ G ⟨g3, g4, g5, g6, zs, rfl, sG, hl, rz⟩
      rw [lkz, ← gt_len d ks, List.take_length] at rz
      exact ⟨_, rfl, q _ _ _ _ gtk (s1.trans sG) (hnone s1 nl) hl rz⟩
end
end Sl

set_option Elab.async false
set_option linter.all false
set_option maxRecDepth 100000
set_option maxHeartbeats 400000
/-! ### more of displays -/
namespace Sl
open PySem PySem.Spec PyProof.Rows L2
theorem gName_at {i : Nat} {v : V} {σ : L2.St} {H : Hp} {Q : L2.St → Hp → Prop} : gName i v σ H Q = Q (σ.set i (some v)) H := rfl
section
variable {K : PySem.W.Frag} {σ : L2.St} {G : Hp}
theorem RddAll.rep' {H : Hp} {vs : List V} {ds : List D} (h : RddAll K H vs ds) : ∀ k : Nat, RddAll K H (List.replicate k vs).flatten (List.replicate k ds).flatten
  | 0 => .nil
  | k + 1 => by
    rw [List.replicate_succ, List.replicate_succ, List.flatten_cons, List.flatten_cons]
    exact h.app' (RddAll.rep' h k)
theorem gv_rep' {ta tk : TE} {ds : List D} {k : Int} (h1 : Gv K σ G ta (.tup ds)) (h2 : Gv K σ G tk (.int k)) (hne : ds ≠ []) (k0 : 2 ≤ k) (k1 : k ≤ 1000) (hz : ds.length ≤ 1000) (hk : k.toNat * ds.length ≤ 100000) : Gv K σ G (tOp (rRepA K) ta tk) (.tup (List.replicate k.toNat ds).flatten) := fun H Q s q =>
  h1 H _ s fun v H1 s1 r1 => h2 H1 _ (s.trans s1) fun u H2 s2 r2 => by
    cases r2
    have r1' := Rdd.ex (.same s2) _ r1
    cases r1' with
    | @tup a xs _ hs ha hl =>
      have e := ha.length
      refine ⟨_, k, _, rfl, rfl, hs, fun z => hne ?_, by omega, k1, by omega, fun z => absurd z (by omega), fun _ p np => ?_⟩
      · rw [z] at e
        exact List.eq_nil_of_length_eq_zero e.symm
      · have sp := Same.new (o := .tup (List.replicate k.toNat xs).flatten) np
        refine q _ _ ((s1.trans s2).trans sp) (.tup (SqT.of upd_same) ((RddAll.ex (.same sp) _ ha).rep' k.toNat) ?_)
        rw [PyProof.Rows.lm_len_rep_flat]
        exact hk
theorem gv_list' {te : TE} {ds : List D} (h1 : Gv K σ G te (.tup ds)) : Gv K σ G (tCB (fun xs H Q => ∃ p ys, xs = [.ref p] ∧ (SqL K H p ys ∨ SqT K H p ys) ∧ ∀ l, H l = none → Q (.ref l) (upd H l (.lst ys))) (tCons te tNil)) .lst := fun H Q s q =>
  h1 H _ s fun v H1 s1 r1 => by
    cases r1 with
    | tup hs ha _ => exact ⟨_, _, rfl, .inr hs, fun l nl => q _ _ (s1.trans (Same.new nl)) (.lst (.base (.lst upd_same)))⟩
/-- {"x": value} -/
theorem gv_disp1 {x : Str} {tv : TE} {d : D} (h : Gv K σ G tv d) : Gv K σ G (tDisp [(tC (.str x), tv)]) .dct := fun H Q s q p np => by
  have s0 := Same.new (o := .dK []) np
  refine h _ _ (s.trans s0) fun v H1 s1 r1 => ⟨s1 _ _ upd_same, [(.inr x, v)], rfl, Nat.le_of_ble_eq_true rfl, q _ _ (fun b o hb => ?_) (.dct (.base (.dK upd_same)))⟩
  have e : b ≠ p := ne_of_none hb np
  rw [upd_ne e]
  exact s1 _ _ (by rw [upd_ne e]; exact hb)
/-- l = l + [..] -/
theorem ts_cat {i : Nat} {ta : TA} {es ds : List D} {l : Addr} {vs : List V} {H : Hp} {rest : TS} {D0 : Ends} (hv : σ[i]? = some (some (.ref l))) (hl : H l = some (.lst vs)) (r : RddAll K H vs ds) (h : Gva K σ H ta es) (hd : ds.length ≤ 1000) (he : es.length ≤ 1000)
    (q : ∀ p ws H', H p = none → Same H H' → H' p = some (.lst ws) → RddAll K H' ws (ds ++ es) → rest D0 (σ.set i (some (.ref p))) H') : tSeq (tAsg (tOp rCat (tVar i) (tLst ta)) (gName i)) rest D0 σ H := by
  show ∃ v, σ[i]? = some (some v) ∧ tLst ta σ H fun y H1 => rCat v y H1 fun x H2 => rest D0 (σ.set i (some x)) H2
  refine ⟨_, hv, lst_gv h (Same.refl H) (by omega) fun p us H1 n1 s1 h1 r1 => ⟨l, p, vs, us, rfl, rfl, s1 _ _ hl, h1, ?_, fun p2 n2 => ?_⟩⟩
  · have e1 := r.length
    have e2 := r1.length
    rw [sizeLine_eq]
    omega
  · have s2 := Same.new (o := .lst (vs ++ us)) n2
    have s12 := s1.trans s2
    exact q p2 _ _ (s1.fr n2) s12 upd_same ((RddAll.ex (.same s12) _ r).app' (RddAll.ex (.same s2) _ r1))
/-- l = [..] -/
theorem ts_lst {i : Nat} {ta : TA} {es : List D} {H : Hp} {rest : TS} {D0 : Ends} (h : Gva K σ H ta es) (he : es.length ≤ 1000)
    (q : ∀ p ws H', H p = none → Same H H' → H' p = some (.lst ws) → RddAll K H' ws es → rest D0 (σ.set i (some (.ref p))) H') : tSeq (tAsg (tLst ta) (gName i)) rest D0 σ H := by
  show tLst ta σ H fun x H1 => rest D0 (σ.set i (some x)) H1
  exact lst_gv h (Same.refl H) (by omega) fun p us H1 n1 s1 h1 r1 => q p us H1 n1 s1 h1 r1
end
end Sl

set_option Elab.async false
set_option linter.all false
set_option maxRecDepth 100000
set_option maxHeartbeats 400000
/-! ## drawn terms -/
namespace Sl
open PySem PySem.Spec PyProof.Rows L2
abbrev sTerm : Stmt := topT 41
theorem scTerm : FnScope ["_law_stream_here", "_law_deep", "_law_found"] ["_law_stream_here"] (defScope sTerm) := ⟨rfl, rfl, rfl, by decide +kernel, rfl, by decide +kernel, by decide +kernel⟩
/-- what stands in the place of a great term -/
def tSub : D := mkL [("x", mkW "f" [mkU "x"])] (mkU "x")
theorem tSub_ok : OpW 3 [] tSub := by
  have u : OpW 1 ["x"] (mkU "x") := ow_U nm_x List.mem_cons_self
  have v : OpN 2 (mkW "f" [mkU "x"]) := op_W nm_f (by decide) fun e he => by rw [List.mem_singleton.mp he]; exact u.1
  refine ⟨op_L ⟨by decide, by decide, fun p hp => by rw [List.mem_singleton.mp hp]; exact nm_x, by simp⟩ (by decide) (fun p hp => by rw [List.mem_singleton.mp hp]; exact v) (u.1.le (by omega)), ?_⟩
  refine .inr (.inr (.inr ⟨_, _, rfl, fun p hp => ?_, ?_⟩))
  · rw [List.mem_singleton.mp hp]
    refine ⟨.inr (.inl ⟨_, _, rfl⟩), .inr (.inl ⟨_, _, rfl, fun e he => ?_⟩)⟩
    rw [List.mem_singleton.mp he]
    exact .inl ⟨"x", rfl, List.mem_cons_self⟩
  · exact .inl ⟨"x", rfl, List.mem_cons_self⟩
theorem tSub_cnt : cnt 3 tSub = 4 := by decide +kernel
section
variable {P : Program} {w : World} {K : PySem.W.Frag} {mg : Str → Option Value} {base : Heap} {fIn fPa fPs : Addr} {fdIn fdPa fdPs : FuncData} {fSt fDr fPk fMx : Addr} {fdSt fdDr fdPk fdMx : FuncData} {fDn fBk fHd fTe : Addr} {fdDn fdBk fdHd fdTe : FuncData}
structure Lte (K : PySem.W.Frag) (mg : Str → Option Value) (fPs fTe : Addr) (fdPs fdTe : FuncData) : Prop where
  FPs : Fun K "_law_paths" "_law_paths" sPaths fPs fdPs
  bPs : Binds K fdPs ["_law_root"] []
  gPs : mg "_law_paths" = some (.ref fPs)
  FTe : Fun K "_law_term" "_law_term" sTerm fTe fdTe
  bTe : Binds K fdTe ["_law_stream_here"] []
  gTe : mg "_law_term" = some (.ref fTe)
theorem drawn_any (Y : Ld K mg fDn fBk fHd fdDn fdBk fdHd) (L : Lw K mg fSt fDr fPk fMx fdSt fdDr fdPk fdMx) (B : Bt mg) : FnOk P w K mg base CX0 17 fDn fdDn ["_law_stream_here", "_law_deep", "_law_seen"] (fun vs H Q E => ∃ n, n ≤ 4 ∧ spDrawn K n vs H Q E) := by
  have G := all_drawn (P := P) (w := w) (base := base) Y L B
  refine ⟨fun vs H Q E h => ?_, fun A outer s H args us vs Q E hr e0 hb r h => ?_⟩
  · obtain ⟨n, _, h⟩ := h
    exact (G n).len vs H Q E h
  · obtain ⟨n, hn, h⟩ := h
    exact (G n).run A outer s H args us vs Q E (hr.mono (by omega)) e0 hb r h
theorem block_any (Y : Ld K mg fDn fBk fHd fdDn fdBk fdHd) (L : Lw K mg fSt fDr fPk fMx fdSt fdDr fdPk fdMx) (B : Bt mg) : FnOk P w K mg base CX0 16 fBk fdBk ["_law_stream_here", "_law_deep", "_law_seen"] (fun vs H Q E => ∃ n, n ≤ 3 ∧ spBlock K n vs H Q E) := by
  have G := fun n => ok_block (P := P) (w := w) (base := base) n (5 + 3 * n) (by omega) (all_drawn Y L B n) Y L B
  refine ⟨fun vs H Q E h => ?_, fun A outer s H args us vs Q E hr e0 hb r h => ?_⟩
  · obtain ⟨n, _, h⟩ := h
    exact (G n).len vs H Q E h
  · obtain ⟨n, hn, h⟩ := h
    exact (G n).run A outer s H args us vs Q E (hr.mono (by omega)) e0 hb r h
def spTerm (K : PySem.W.Frag) : Sp := fun vs H Q _ => ∃ (a : Addr), vs = [V.ref a] ∧ Stm a H ∧ ∀ v d n H', Jst a H H' → Rdd K H' v d → n ≤ 9 → OpW n [] d → cnt n d ≤ 45 → Q v H'
theorem ok_term (S : Lte K mg fPs fTe fdPs fdTe) (T : Lp K mg fIn fPa fdIn fdPa) (Y : Ld K mg fDn fBk fHd fdDn fdBk fdHd) (L : Lw K mg fSt fDr fPk fMx fdSt fdDr fdPk fdMx) (B : Bt mg) : FnOk P w K mg base CX0 18 fTe fdTe ["_law_stream_here"] (spTerm K) := by
  have GD : FnOk P w K mg base CX0 1 fDr fdDr ["_law_stream_here", "_law_high"] spDraw := g_draw L B
  have GH : FnOk P w K mg base CX0 3 fPs fdPs ["_law_root"] (spPaths K) := ok_paths S.FPs T B
  have GN : FnOk P w K mg base CX0 17 fDn fdDn ["_law_stream_here", "_law_deep", "_law_seen"] (fun vs H Q E => ∃ n, n ≤ 4 ∧ spDrawn K n vs H Q E) := drawn_any Y L B
  have GB : FnOk P w K mg base CX0 16 fBk fdBk ["_law_stream_here", "_law_deep", "_law_seen"] (fun vs H Q E => ∃ n, n ≤ 3 ∧ spBlock K n vs H Q E) := block_any Y L B
  refine S.FTe.ok scTerm (fun vs H Q E h => ?_) (fun cdv A outer s H vs Q E hr h => ?_)
  · obtain ⟨a, rfl, _⟩ := h
    rfl
  · obtain ⟨a, rfl, hs, q⟩ := h
    have h1 := hr.mono (by decide : 1 ≤ 17)
    have h3 := hr.mono (by decide : 3 ≤ 17)
    have h16 := hr.mono (by decide : 16 ≤ 17)
    --D
    refine ⟨_, (pss_cons (ps_set (i := 1) scTerm.nd rfl (Or.inl rfl) (pe_op op_add pe_int (pe_call GD h1 (by rfl) L.gDr L.FDr.kp L.bDr .nil pass0 (pa_cons (pv 0) (pa_cons pe_int pa_nil)))))
        (pss_cons (ps_set (i := 2) scTerm.nd rfl (Or.inl rfl) (pe_ifExp (pt_cmpR op_gt (pe_call GD h1 (by rfl) L.gDr L.FDr.kp L.bDr .nil pass0 (pa_cons (pv 0) (pa_cons pe_int pa_nil))) pe_int (nomark _)) (pe_call GB h16 (by rfl) Y.gBk Y.FBk.kp Y.bBk .nil pass0 (pa_cons (pv 0) (pa_cons (pv 1) (pa_cons (pe_lst pa_nil) pa_nil)))) (pe_call GN hr (by rfl) Y.gDn Y.FDn.kp Y.bDn .nil pass0 (pa_cons (pv 0) (pa_cons (pv 1) (pa_cons (pe_lst pa_nil) pa_nil))))))
        (pss_cons (ps_if (pt_cmpR op_gt (pe_callB call_len_seq (by rfl) B.len PySem.boot_len (pa_cons (pe_call GH h3 (by rfl) S.gPs S.FPs.kp S.bPs .nil pass0 (pa_cons (pv 2) pa_nil)) pa_nil)) pe_int (nomark _))
          (pss_one (ps_set (i := 2) scTerm.nd rfl (Or.inl rfl) (pe_tup (pa_cons pe_str (pa_cons (pe_tup (pa_cons (pe_tup (pa_cons pe_str (pa_cons (pe_tup (pa_cons pe_str (pa_cons pe_str (pa_cons (pe_tup (pa_cons (pe_tup (pa_cons pe_str (pa_cons pe_str pa_nil))) pa_nil)) pa_nil)))) pa_nil))) pa_nil)) (pa_cons (pe_tup (pa_cons pe_str (pa_cons pe_str pa_nil))) pa_nil)))))) pss_nil)
        (pss_one (ps_ret (pv 2)))))), ?_⟩
    --E
    refine ⟨.ref a, rfl, a, 3, rfl, hs, by decide, small_big (by decide), fun r H1 r0 r1 o1 hs1 => ?_⟩
    have j1 : Jst a H H1 := ⟨hs, hs1, o1⟩
    obtain ⟨k, rfl⟩ := Int.eq_ofNat_of_zero_le r0
    have ek : (2 : Int) + (k : Nat) = ((k + 1 + 1 : Nat) : Int) := by omega
    have k4 : k + 1 ≤ 3 := by omega
    refine ⟨2, (k : Nat), rfl, rfl, .ref a, rfl, a, 4, rfl, hs1, by decide, small_big (by decide), fun r2 H2 q0 q1 o2 hs2 => ?_⟩
    have j2 : Jst a H1 H2 := ⟨hs1, hs2, o2⟩
    have j02 := j1.trans j2
    refine ⟨_, _, rfl, rfl, _, rfl, ite2 (fun _ => ?_) (fun _ => ?_)⟩
    · refine ⟨.ref a, rfl, _, rfl, (by show 0 ≤ sizeLine; decide), fun p np => ?_⟩
      have s3 := Same.new (o := .lst []) np
      have hs3 := hs2.same s3
      have j03 := j02.trans (Jst.same hs2 s3)
      refine ⟨k + 1, k4, a, p, [], (by show [V.ref a, V.int (2 + ((k : Nat) : Int)), V.ref p] = _; rw [ek]), hs3, hs2.ne np, ⟨upd_same, fun x hx => by cases hx⟩, by show 0 + 8 * (k + 1 + 1) ≤ 400; omega, fun v d H4 j4 rv od => ?_⟩
      have o9 : OpW 9 [] d := od.le (by omega)
      have j04 := j03.trans j4
      refine ⟨v, rfl, v, d, 9, rfl, rv, o9.1, by decide, fun p5 zs ps H5 s5 n5 h5 rz pok lps => ?_⟩
      have j05 := j04.trans (Jst.same j4.2.1 s5)
      have lz := rz.length
      rw [List.length_map] at lz
      refine ⟨p5, zs, rfl, .inl (SqL.of h5), _, _, rfl, rfl, _, rfl, ite2 (fun e => ?_) (fun e => ?_)⟩
      · have gU : ∀ {σ : L2.St} {G : Hp} {x : Str}, Gv K σ G (tTup (tCons (tC (.str "name")) (tCons (tC (.str x)) tNil))) (mkU x) := gv_tup (gva_cons (gv_str _) (gva_cons (gv_str _) gva_nil)) (Nat.le_of_ble_eq_true rfl)
        have gW : ∀ {σ : L2.St} {G : Hp}, Gv K σ G (tTup (tCons (tC (.str "word")) (tCons (tC (.str "f")) (tCons (tTup (tCons (tTup (tCons (tC (.str "name")) (tCons (tC (.str "x")) tNil))) tNil)) tNil)))) (mkW "f" [mkU "x"]) :=
          gv_tup (gva_cons (gv_str _) (gva_cons (gv_str _) (gva_cons (gv_tup (gva_cons gU gva_nil) (Nat.le_of_ble_eq_true rfl)) gva_nil))) (Nat.le_of_ble_eq_true rfl)
        dsimp only
        refine (gv_tup (K := K) (G := H5) (ds := [.str "let", .tup [.tup [.str "x", mkW "f" [mkU "x"]]], mkU "x"]) (gva_cons (gv_str "let") (gva_cons (gv_tup (gva_cons (gv_tup (gva_cons (gv_str "x") (gva_cons gW gva_nil)) (Nat.le_of_ble_eq_true rfl)) gva_nil) (Nat.le_of_ble_eq_true rfl)) (gva_cons gU gva_nil))) (Nat.le_of_ble_eq_true rfl)) H5 _ (Same.refl _) fun v6 H6 s6 r6 => ?_
        exact ⟨_, rfl, q v6 tSub 3 H6 (j05.trans (Jst.same j05.2.1 s6)) r6 (by decide) tSub_ok (by rw [tSub_cnt]; decide)⟩
      · have ne : ¬ ((zs.length : Int) > 45) := fun z => e (decide_eq_true z)
        exact ⟨v, rfl, q v d 9 H5 j05 (Rdd.ex (.same s5) _ rv) (by decide) o9 (by omega)⟩
    · refine ⟨.ref a, rfl, _, rfl, (by show 0 ≤ sizeLine; decide), fun p np => ?_⟩
      have s3 := Same.new (o := .lst []) np
      have hs3 := hs2.same s3
      have j03 := j02.trans (Jst.same hs2 s3)
      refine ⟨k + 2, by omega, a, p, [], (by show [V.ref a, V.int (2 + ((k : Nat) : Int)), V.ref p] = _; rw [ek]), hs3, hs2.ne np, ⟨upd_same, fun x hx => by cases hx⟩, by show 0 + 8 * (k + 2) ≤ 400; omega, fun v d H4 j4 rv od => ?_⟩
      have o9 : OpW 9 [] d := od.le (by omega)
      have j04 := j03.trans j4
      refine ⟨v, rfl, v, d, 9, rfl, rv, o9.1, by decide, fun p5 zs ps H5 s5 n5 h5 rz pok lps => ?_⟩
      have j05 := j04.trans (Jst.same j4.2.1 s5)
      have lz := rz.length
      rw [List.length_map] at lz
      refine ⟨p5, zs, rfl, .inl (SqL.of h5), _, _, rfl, rfl, _, rfl, ite2 (fun e => ?_) (fun e => ?_)⟩
      · have gU : ∀ {σ : L2.St} {G : Hp} {x : Str}, Gv K σ G (tTup (tCons (tC (.str "name")) (tCons (tC (.str x)) tNil))) (mkU x) := gv_tup (gva_cons (gv_str _) (gva_cons (gv_str _) gva_nil)) (Nat.le_of_ble_eq_true rfl)
        have gW : ∀ {σ : L2.St} {G : Hp}, Gv K σ G (tTup (tCons (tC (.str "word")) (tCons (tC (.str "f")) (tCons (tTup (tCons (tTup (tCons (tC (.str "name")) (tCons (tC (.str "x")) tNil))) tNil)) tNil)))) (mkW "f" [mkU "x"]) :=
          gv_tup (gva_cons (gv_str _) (gva_cons (gv_str _) (gva_cons (gv_tup (gva_cons gU gva_nil) (Nat.le_of_ble_eq_true rfl)) gva_nil))) (Nat.le_of_ble_eq_true rfl)
        dsimp only
        refine (gv_tup (K := K) (G := H5) (ds := [.str "let", .tup [.tup [.str "x", mkW "f" [mkU "x"]]], mkU "x"]) (gva_cons (gv_str "let") (gva_cons (gv_tup (gva_cons (gv_tup (gva_cons (gv_str "x") (gva_cons gW gva_nil)) (Nat.le_of_ble_eq_true rfl)) gva_nil) (Nat.le_of_ble_eq_true rfl)) (gva_cons gU gva_nil))) (Nat.le_of_ble_eq_true rfl)) H5 _ (Same.refl _) fun v6 H6 s6 r6 => ?_
        exact ⟨_, rfl, q v6 tSub 3 H6 (j05.trans (Jst.same j05.2.1 s6)) r6 (by decide) tSub_ok (by rw [tSub_cnt]; decide)⟩
      · have ne : ¬ ((zs.length : Int) > 45) := fun z => e (decide_eq_true z)
        exact ⟨v, rfl, q v d 9 H5 j05 (Rdd.ex (.same s5) _ rv) (by decide) o9 (by omega)⟩
end
end Sl

set_option Elab.async false
set_option linter.all false
set_option maxRecDepth 100000
set_option maxHeartbeats 400000
/-! ## _law_nodes, _law_shuffled -/
namespace Sl
open PySem PySem.Spec PyProof.Rows L2
abbrev sNodes : Stmt := topT 51
abbrev sShuf : Stmt := topT 52
theorem scNodes : FnScope ["_law_stream_here"] ["_law_stream_here"] (defScope sNodes) := ⟨rfl, rfl, rfl, by decide +kernel, rfl, by decide +kernel, by decide +kernel⟩
theorem scShuf : FnScope ["_law_stream_here", "_law_nodes_here", "_law_order", "_law_found", "_law_at", "_law_node", "_law_size", "_law_turn", "_law_child", "_law_one"] ["_law_stream_here", "_law_nodes_here"] (defScope sShuf) := ⟨rfl, rfl, rfl, by decide +kernel, rfl, by decide +kernel, by decide +kernel⟩
def vN : V → Nat
  | .int i => i.toNat
  | _ => 0
theorem perm_iL {ys : List V} {l : List Nat} (h : ys.Perm (iL l)) : ∃ qs : List Nat, ys = iL qs ∧ qs.Perm l := by
  have e1 : (iL l).map vN = l := by
    unfold iL
    rw [List.map_map]
    exact (List.map_congr_left (g := id) fun i _ => Int.toNat_natCast i).trans (List.map_id _)
  refine ⟨ys.map vN, ?_, ?_⟩
  · unfold iL
    rw [List.map_map]
    refine ((List.map_congr_left (g := id) fun y hy => ?_).trans (List.map_id _)).symm
    have := h.mem_iff.mp hy
    unfold iL at this
    obtain ⟨i, _, rfl⟩ := List.mem_map.mp this
    show V.int ((vN (.int (i : Nat)) : Nat) : Int) = V.int (i : Nat)
    rfl
  · have := h.map vN
    rw [e1] at this
    exact this
theorem flat_iL' (l : List Nat) : (iL l).all flatV = true := List.all_eq_true.mpr fun v hv => by
  unfold iL at hv
  obtain ⟨x, _, rfl⟩ := List.mem_map.mp hv
  rfl
theorem eqV_int (e : Nat) : eqV (.int (e : Nat)) (.int (e : Nat)) = true := by
  show ((e : Int) == (e : Int)) = true
  exact beq_self_eq_true _
theorem eqV_int_ne {x y : Nat} (h : ¬ x = y) : eqV (.int (x : Nat)) (.int (y : Nat)) = false := by
  show ((x : Int) == (y : Int)) = false
  exact beq_eq_false_iff_ne.mpr fun z => h (Int.ofNat.inj z)
section
variable {P : Program} {w : World} {K : PySem.W.Frag} {mg : Str → Option Value} {base : Heap} {fIn fPa fPs fBi fHe fKe fKs fGr : Addr} {fdIn fdPa fdPs dBi dHe dKe dKs dGr : FuncData} {fSt fDr fPk fMx : Addr} {fdSt fdDr fdPk fdMx : FuncData} {fDn fBk fHd fTe : Addr} {fdDn fdBk fdHd fdTe : FuncData}
/-- the law's defs of graphs of terms -/
structure Lg (K : PySem.W.Frag) (mg : Str → Option Value) (fKs fGr : Addr) (dKs dGr : FuncData) : Prop where
  FKs : Fun K "_law_keys" "_law_keys" sKeys fKs dKs
  bKs : Binds K dKs ["_law_root"] []
  gKs : mg "_law_keys" = some (.ref fKs)
  FGr : Fun K "_law_graph" "_law_graph" sGraph fGr dGr
  bGr : Binds K dGr ["_law_root"] []
  gGr : mg "_law_graph" = some (.ref fGr)
def spNodes (K : PySem.W.Frag) : Sp := fun vs H Q _ => ∃ (a : Addr), vs = [V.ref a] ∧ Stm a H ∧ ∀ ns u H', GT ns → Jst a H H' → Rdd K H' u (.tup (ns.map ndD)) → Q u H'
theorem ok_nodes (Z : Lh K mg fBi fHe fKe dBi dHe dKe) (G' : Lg K mg fKs fGr dKs dGr) (S : Lte K mg fPs fTe fdPs fdTe) (T : Lp K mg fIn fPa fdIn fdPa) (Y : Ld K mg fDn fBk fHd fdDn fdBk fdHd) (L : Lw K mg fSt fDr fPk fMx fdSt fdDr fdPk fdMx) (B : Bt mg) {f : Addr} {fd : FuncData} (F : Fun K "_law_nodes" "_law_nodes" sNodes f fd) :
    FnOk P w K mg base CX0 19 f fd ["_law_stream_here"] (spNodes K) := by
  have GT' : FnOk P w K mg base CX0 18 fTe fdTe ["_law_stream_here"] (spTerm K) := ok_term S T Y L B
  have GG : FnOk P w K mg base CX0 7 fGr dGr ["_law_root"] (spGraph K) := ok_graph T Z B G'.FKs G'.bKs G'.gKs G'.FGr
  refine F.ok scNodes (fun vs H Q E h => ?_) (fun cdv A outer s H vs Q E hr h => ?_)
  · obtain ⟨a, rfl, _⟩ := h
    rfl
  · obtain ⟨a, rfl, hs, q⟩ := h
    have h7 := hr.mono (by decide : 7 ≤ 18)
    --DN
    refine ⟨_, (pss_one (ps_ret (pe_callTy call_tuple_of (by rfl) B.tuple (by decide +kernel) (pa_cons (pe_call GG h7 (by rfl) G'.gGr G'.FGr.kp G'.bGr .nil pass0 (pa_cons (pe_call GT' hr (by rfl) S.gTe S.FTe.kp S.bTe .nil pass0 (pa_cons (pv 0) pa_nil)) pa_nil)) pa_nil)))), ?_⟩
    --EN
    refine ⟨_, rfl, a, rfl, hs, fun v d n H1 j1 rv hn od hc => ?_⟩
    refine ⟨v, d, n, n, rfl, rv, od.1, od.2, hn, hc, fun ns p zs H2 gt s2 np hp rz => ?_⟩
    have lz : zs.length ≤ 45 := by
      have := gt.big
      rw [rz.length, List.length_map]
      exact this
    have j2 := j1.trans (Jst.same j1.2.1 s2)
    refine ⟨p, zs, rfl, .inl ⟨SqL.of hp, fun p2 np2 => ?_⟩⟩
    have s3 := Same.new (o := .tup zs) np2
    exact q ns (.ref p2) _ gt (j2.trans (Jst.same j2.2.1 s3)) (tup_val upd_same (RddAll.ex (Ex.same s3) _ rz) (by rw [← rz.length]; omega))
def spShuf (K : PySem.W.Frag) : Sp := fun vs H Q _ => ∃ (a : Addr) (u : V) (ns : List GN), vs = [V.ref a, u] ∧ Stm a H ∧ Rdd K H u (.tup (ns.map ndD)) ∧ GT ns ∧
  ∀ u2 H' (ms : List GN), Jst a H H' → Rdd K H' u2 (.tup (ms.map ndD)) → GV ms → (∀ o, FW (kd ms) [] [0] o → ren ms o = ns) → Q u2 H'
theorem ok_shuf (L : Lw K mg fSt fDr fPk fMx fdSt fdDr fdPk fdMx) (B : Bt mg) {f : Addr} {fd : FuncData} (F : Fun K "_law_shuffled" "_law_shuffled" sShuf f fd) :
    FnOk P w K mg base CX0 3 f fd ["_law_stream_here", "_law_nodes_here"] (spShuf K) := by
  have GD : FnOk P w K mg base CX0 1 fDr fdDr ["_law_stream_here", "_law_high"] spDraw := g_draw L B
  have GP : FnOk P w K mg base CX0 2 fPk fdPk ["_law_stream_here", "_law_items"] (spPick K) := g_pick L B
  have GM : FnOk P w K mg base CX0 2 fMx fdMx ["_law_stream_here", "_law_items"] (spMixed K) := ok_mixed L B
  refine F.ok scShuf (fun vs H Q E h => ?_) (fun cdv A outer s H vs Q E hr h => ?_)
  · obtain ⟨a, u, ns, rfl, _⟩ := h
    rfl
  · obtain ⟨a, u, ns, rfl, hs, hu, gt, q⟩ := h
    have h1 := hr.mono (by decide : 1 ≤ 2)
    --DS
    refine ⟨_, (pss_cons (ps_set (i := 2) scShuf.nd rfl (Or.inr rfl) (pe_op op_cat (pe_lst (pa_cons pe_int pa_nil)) (pe_call GM hr (by rfl) L.gMx L.FMx.kp L.bMx .nil pass0 (pa_cons (pv 0) (pa_cons (pe_listRg rfl (by rfl) B.list (prg_2 (by rfl) B.range pe_int (pe_callB call_len_seq (by rfl) B.len PySem.boot_len (pa_cons (pv 1) pa_nil)))) pa_nil)))))
        (pss_cons (ps_set (i := 3) scShuf.nd rfl (Or.inl rfl) (pe_lst pa_nil))
        (pss_cons (ps_for PassesOwn.never rfl (pi_list (pv 2)) (pg_name (i := 4) scShuf.nd rfl (Or.inl rfl))
          (pss_cons (ps_set (i := 5) scShuf.nd rfl (Or.inl rfl) (pe_ix ix_tup (pv 1) (pv 4) (fun _ _ => rfl)))
        (pss_one (ps_if (pt_cmpR op_eq (pe_ix ix_tup (pv 5) pe_int (fun _ _ => rfl)) pe_str (nomark _))
          (pss_one (ps_expr (pe_bm PySem.F.plainAttrs_list PySem.F.slot_list_append PySem.F.type_list_append mt_append (pv 3) (pa_cons (pe_tup (pa_cons pe_str (pa_cons (pe_ix ix_tup (pv 5) pe_int (fun _ _ => rfl)) (pa_cons (pe_callTy call_tuple_of (by rfl) B.tuple (by decide +kernel) (pa_cons (pe_lc (own := [("_law_one", 9)]) (g := gName 9) (tt := tYes) (te := tBM K "list" (rIndex K) (tVar 2) (tCons (tVar 9) tNil)) rfl scShuf.nd (pi_tup (pe_ix ix_tup (pv 5) pe_int (fun _ _ => rfl))) (blkOk_by (own := [("_law_one", 9)]) (N := ["_law_stream_here", "_law_nodes_here", "_law_order", "_law_found", "_law_at", "_law_node", "_law_size", "_law_turn", "_law_child", "_law_one"]) (sc := defScope sShuf) (by decide +kernel)) (fun _ _ _ _ _ => pg_name (i := 9) scShuf.nd rfl (Or.inl rfl)) (fun _ _ _ _ _ => pts_nil) (fun _ _ _ _ _ => by exact (pe_bm PySem.F.plainAttrs_list PySem.F.slot_list_index PySem.F.type_list_index mt_index (pv 2) (pa_cons (pv 9) pa_nil)))) pa_nil)) pa_nil)))) pa_nil)))) (pss_one (ps_expr (pe_bm PySem.F.plainAttrs_list PySem.F.slot_list_append PySem.F.type_list_append mt_append (pv 3) (pa_cons (pe_tup (pa_cons (pe_ix ix_tup (pv 5) pe_int (fun _ _ => rfl)) (pa_cons (pe_bm PySem.F.plainAttrs_list PySem.F.slot_list_index PySem.F.type_list_index mt_index (pv 2) (pa_cons (pe_ix ix_tup (pv 5) pe_int (fun _ _ => rfl)) pa_nil)) pa_nil))) pa_nil))))))))
        (pss_cons (ps_set (i := 6) scShuf.nd rfl (Or.inl rfl) (pe_callB call_len_seq (by rfl) B.len PySem.boot_len (pa_cons (pv 3) pa_nil)))
        (pss_cons (ps_for PassesOwn.never rfl (pi_range1 (by rfl) B.range (pa_cons (pe_call GD h1 (by rfl) L.gDr L.FDr.kp L.bDr .nil pass0 (pa_cons (pv 0) (pa_cons pe_int pa_nil))) pa_nil)) (pg_name (i := 7) scShuf.nd rfl (Or.inl rfl))
          (pss_cons (ps_set (i := 8) scShuf.nd rfl (Or.inl rfl) (pe_call GD h1 (by rfl) L.gDr L.FDr.kp L.bDr .nil pass0 (pa_cons (pv 0) (pa_cons (pv 6) pa_nil))))
        (pss_one (ps_expr (pe_bm PySem.F.plainAttrs_list PySem.F.slot_list_append PySem.F.type_list_append mt_append (pv 3) (pa_cons (pe_call GP hr (by rfl) L.gPk L.FPk.kp L.bPk .nil pass0 (pa_cons (pv 0) (pa_cons (pe_lst (pa_cons (pe_tup (pa_cons pe_str (pa_cons (pv 8) pa_nil))) (pa_cons (pe_tup (pa_cons pe_str (pa_cons pe_str (pa_cons (pe_tup pa_nil) pa_nil)))) (pa_cons (pe_tup (pa_cons pe_str (pa_cons pe_str (pa_cons (pe_tup (pa_cons (pv 8) (pa_cons (pv 6) pa_nil))) pa_nil)))) pa_nil)))) pa_nil))) pa_nil))))))
        (pss_one (ps_ret (pe_callTy call_tuple_of (by rfl) B.tuple (by decide +kernel) (pa_cons (pv 3) pa_nil))))))))), ?_⟩
    --ES
    have sl := sizeLine_eq
    have hnone : ∀ {G : Hp} {b : Addr}, Same H G → G b = none → H b = none := fun {G b} s n => by
      cases e : H b with
      | none => rfl
      | some o =>
        rw [s _ _ e] at n
        cases n
    have big := gt.big
    have pos := gt.pos
    obtain ⟨b0, us, rfl, hsu, hxu, _⟩ := id hu.tupd'
    have lu : us.length = ns.length := by rw [hxu.length, List.length_map]
    -- the order
    refine ⟨(by show 1 ≤ sizeLine; omega), fun p0 n0 => ?_⟩
    have s1 := Same.new (o := .lst [V.int 0]) n0
    have hp0 : (upd H p0 (.lst [V.int 0])) p0 = some (.lst [V.int 0]) := upd_same
    have p0a : p0 ≠ a := hs.ne n0
    generalize upd H p0 (.lst [V.int 0]) = H1 at s1 hp0 ⊢
    have hs1 := hs.same s1
    refine ⟨_, rfl, _, rfl, b0, us, rfl, .inr ((Ex.same s1).tup hsu), _, _, rfl, rfl, RgOk.of_le (by omega) (by omega) (by omega) (by omega), fun l1 n1 => ?_⟩
    have s2 := Same.new (o := .lst (rgV 1 (us.length : Nat))) n1
    have hl1 : (upd H1 l1 (.lst (rgV 1 (us.length : Nat)))) l1 = some (.lst (rgV 1 (us.length : Nat))) := upd_same
    have l1a : l1 ≠ a := hs1.ne n1
    have hp02 := s2 _ _ hp0
    generalize upd H1 l1 (.lst (rgV 1 (us.length : Nat))) = H2 at s2 hl1 hp02 ⊢
    have hs2 := hs1.same s2
    refine ⟨a, l1, _, rfl, hs2, l1a, SqL.of hl1, (by rw [rgV_length]; omega), fun ys p2 H3 pm np2 j3 hp2 => ?_⟩
    obtain ⟨os, eos, pos'⟩ : ∃ os : List Nat, V.int 0 :: ys = iL os ∧ os.Perm (List.range ns.length) := by
      have e0 : rgV 1 (us.length : Nat) = iL ((List.range (ns.length - 1)).map (· + 1)) := by
        unfold rgV iL
        rw [List.map_map, show (((us.length : Nat) : Int) - 1).toNat = ns.length - 1 by omega]
        refine List.map_congr_left fun i _ => ?_
        show V.int (1 + (i : Nat)) = V.int ((i + 1 : Nat) : Int)
        rw [show (1 : Int) + (i : Nat) = ((i + 1 : Nat) : Int) by omega]
      rw [e0] at pm
      obtain ⟨qs, e1, pq⟩ := perm_iL pm
      refine ⟨0 :: qs, by rw [e1]; rfl, ?_⟩
      have e2 : List.range ns.length = 0 :: (List.range (ns.length - 1)).map (· + 1) := by
        obtain ⟨k, hk⟩ : ∃ k, ns.length = k + 1 := ⟨ns.length - 1, by omega⟩
        rw [hk, List.range_succ_eq_map]
        rfl
      rw [e2]
      exact pq.cons 0
    have h0 : os[0]? = some 0 := by
      cases os with
      | nil => cases eos
      | cons o os =>
        have : V.int 0 = V.int (o : Nat) := (List.cons.inj eos).1
        injection this with this
        exact congrArg some (by omega)
    obtain ⟨ndo, lo, hmo⟩ := sh_facts pos'
    have j02 : Jst a H H2 := Jst.same hs (s1.trans s2)
    have j03 := j02.trans j3
    have hp03 := j3.2.2 _ _ p0a hp02
    refine ⟨p0, p2, [V.int 0], ys, rfl, rfl, hp03, hp2, (by rw [pm.length_eq, rgV_length]; simp; omega), fun p3 n3 => ?_⟩
    rw [show [V.int 0] ++ ys = iL os from eos]
    have s4 := Same.new (o := .lst (iL os)) n3
    have hp3 : (upd H3 p3 (.lst (iL os))) p3 = some (.lst (iL os)) := upd_same
    have j04 := j03.trans (Jst.same j3.2.1 s4)
    generalize upd H3 p3 (.lst (iL os)) = H4 at s4 hp3 j04 ⊢
    have hs4 := j04.2.1
    have hu4 := Rdd.ex ((jr_st a).ex j04) _ hu
    obtain ⟨b1, us1, eb, hsu4, hxu4, _⟩ := hu4.tupd'
    cases eb
    refine ⟨(by show 0 ≤ sizeLine; omega), fun l nl => ?_⟩
    have s5 := Same.new (o := .lst []) nl
    have hl5 : (upd H4 l (.lst [])) l = some (.lst []) := upd_same
    have la : l ≠ a := hs4.ne nl
    have lp3 : p3 ≠ l := ne_of_none hp3 nl
    generalize upd H4 l (.lst []) = H5 at s5 hl5 ⊢
    have cl := sh_cl gt pos'
    have lt : ∀ i ∈ os, i < ns.length := fun i hi => (hmo i).mp hi
    refine ⟨_, rfl, p3, rfl, ⟨_, SqL.of (s5 _ _ hp3)⟩, ?_⟩
    refine for_list (xs := iL os) (fun i σ G => ∃ (g4 g5 : Option V) (zs : List V), σ = [some (.ref a), some (.ref b0), some (.ref p3), some (.ref l), g4, g5, none, none, none, none] ∧ Same H4 G ∧ G l = some (.lst zs) ∧ RddAll K G zs (((ren ns os).take i).map ndD)) ⟨none, none, [], rfl, s5, hl5, .nil⟩ ?_ ?_ ?_
    · rintro i σ G _ ⟨g4, g5, zs, rfl, sG, hl, rz⟩
      exact SqL.of (sG _ _ hp3)
    · rintro i x σ G hx ⟨g4, g5, zs, rfl, sG, hl, rz⟩
      unfold iL at hx
      rw [List.getElem?_map] at hx
      obtain ⟨c, hc, rfl⟩ := Option.map_eq_some_iff.mp hx
      have hi := (List.getElem?_eq_some_iff.mp hc).1
      have cm := List.mem_of_getElem? hc
      have hcn := lt c cm
      have lzs : zs.length = i := by rw [rz.length, List.length_map, List.length_take, ren_len]; omega
      obtain ⟨y, hy, ry⟩ := hxu4.at (i := c) (d := ndD (nAt ns c)) (by rw [List.getElem?_map, nAt_get hcn]; rfl)
      have ryG := Rdd.ex (Ex.same sG) _ ry
      have hp3G := sG _ _ hp3
      have rng := gt.rng _ (List.mem_of_getElem? (nAt_get hcn))
      have clc := cl c cm
      refine ⟨_, rfl, _, rfl, b0, us1, ((c : Nat) : Int), y, rfl, rfl, (Ex.same sG).tup hsu4, atI_nat hy, ?_⟩
      have done : ∀ {G4 : Hp} {x : V} {g4 g5 : Option V}, Same G G4 → Rdd K G4 x (ndD (rl (fun j => os.idxOf j) (nAt ns c))) → ∃ (g4' g5' : Option V) (zs2 : List V), [some (.ref a), some (.ref b0), some (.ref p3), some (.ref l), g4, g5, none, none, none, none] = [some (.ref a), some (.ref b0), some (.ref p3), some (.ref l), g4', g5', none, none, none, none] ∧ Same H4 (upd G4 l (.lst (zs ++ [x]))) ∧ (upd G4 l (.lst (zs ++ [x]))) l = some (.lst zs2) ∧ RddAll K (upd G4 l (.lst (zs ++ [x]))) zs2 (((ren ns os).take (i + 1)).map ndD) := fun {G4 x g4 g5} s6 rx => by
        have hl6 := s6 _ _ hl
        have xA : Ex G4 (upd G4 l (.lst (zs ++ [x]))) := (Off.put (a := l)).ex hl6 upd_same
        refine ⟨g4, g5, zs ++ [x], rfl, jr_same.put (sG.trans s6) nl, upd_same, ?_⟩
        rw [List.take_add_one, ren_at hc, List.map_append]
        exact (RddAll.ex xA _ (RddAll.ex (Ex.same s6) _ rz)).app' (.cons (Rdd.ex xA _ rx) .nil)
      have first : ∀ {e : Nat} (k : Nat) (z : V), k < os.idxOf e → (iL os)[k]? = some z → eqV z (.int (e : Nat)) = false := fun {e} k z hk hz => by
        unfold iL at hz
        rw [List.getElem?_map] at hz
        obtain ⟨b, hb, rfl⟩ := Option.map_eq_some_iff.mp hz
        exact eqV_int_ne fun e2 => idx_first hk (e2 ▸ hb)
      have whr : ∀ {e : Nat}, e ∈ os → (iL os)[os.idxOf e]? = some (V.int (e : Nat)) := fun {e} he => by
        unfold iL
        rw [List.getElem?_map, idx_at he]
        rfl
      cases hg : nAt ns c with
      | W w cs =>
        rw [hg] at ryG done clc
        obtain ⟨c0, ws, rfl, hc0, hws, _⟩ := ryG.tupd'
        obtain ⟨w1, w2, w3, rfl, q1, q2, q3⟩ := hws.trip
        cases q1
        cases q2
        obtain ⟨t, ts, rfl, ht, hts, _⟩ := q3.tupd'
        have ets := iD_ints hts
        have lcs : cs.length ≤ 3 := by
          rw [hg] at rng
          exact rng.2.1
        refine ⟨_, rfl, c0, _, (0 : Int), _, rfl, rfl, hc0, atI_nat (j := 0) rfl, rfl, _, rfl, ?_⟩
        rw [str_dec, decide_eq_true rfl]
        refine iteT ⟨_, rfl, .inl ⟨rfl, _, SqL.of hl⟩, _, rfl, c0, _, (1 : Int), _, rfl, rfl, hc0, atI_nat (j := 1) rfl, _, rfl, c0, _, (2 : Int), .ref t, rfl, rfl, hc0, atI_nat (j := 2) rfl, t, rfl, ⟨_, ht⟩, fun D0 nD => ?_⟩
        refine lcT (cs.map fun e => some (V.int (os.idxOf e : Nat))) (by rw [List.length_map, ets, List.length_map]) (by rw [ets, List.length_map]; omega) ht nD ?_ ?_
        · intro k z G4 Q2 Z2 hz s6 hQ _
          rw [ets] at hz
          rw [List.getElem?_map] at hz
          obtain ⟨e, he, rfl⟩ := Option.map_eq_some_iff.mp hz
          have em := clc e (List.mem_of_getElem? he)
          refine ⟨rfl, ?_⟩
          refine iteT (B := Z2 G4) ⟨_, rfl, .inl ⟨rfl, _, SqL.of (s6 _ _ hp3G)⟩, _, rfl, p3, iL os, .int (e : Nat), os.idxOf e, .int (e : Nat), rfl, rfl, SqL.of (s6 _ _ hp3G), rfl, flat_iL os, whr em, eqV_int e, first, hQ _ _ ?_ (Same.refl _)⟩
          rw [List.getElem?_map, he]
          rfl
        · intro G4 s6 hD
          have ef : (cs.map fun e => some (V.int (os.idxOf e : Nat))).filterMap id = iL (cs.map fun j => os.idxOf j) := by
            unfold iL
            rw [List.map_map, List.filterMap_map, ← List.filterMap_eq_map]
            rfl
          rw [ef] at hD
          refine ⟨D0, _, rfl, .inl ⟨SqL.of hD, fun p5 np5 => ?_⟩⟩
          have s7 := Same.new (o := .tup (iL (cs.map fun j => os.idxOf j))) np5
          have h7 : (upd G4 p5 (.tup (iL (cs.map fun j => os.idxOf j)))) p5 = some (.tup (iL (cs.map fun j => os.idxOf j))) := upd_same
          generalize upd G4 p5 (.tup (iL (cs.map fun j => os.idxOf j))) = G5 at s7 h7 ⊢
          refine ⟨(by show 3 ≤ sizeLine; omega), fun p6 np6 => ⟨l, zs, _, rfl, rfl, ?_, by omega, ?_⟩⟩
          · rw [upd_ne (ne_of_none ((s6.trans s7) _ _ hl) np6)]
            exact (s6.trans s7) _ _ hl
          · have s8 := Same.new (o := .tup [V.str "word", .str w, .ref p5]) np6
            refine done ((s6.trans s7).trans s8) ?_
            exact .tup (SqT.of upd_same) (.cons (.str _) (.cons (.str _) (.cons (.tup (SqT.of (s8 _ _ h7)) (of_ints _) (by unfold iD; rw [List.length_map, List.length_map]; omega)) .nil))) (by simp)
      | F e =>
        rw [hg] at ryG done clc
        obtain ⟨c0, ws, rfl, hc0, hws, _⟩ := ryG.tupd'
        obtain ⟨w1, w2, rfl, q1, q2⟩ := hws.pair
        cases q1
        cases q2
        have em := clc e (List.mem_singleton.mpr rfl)
        refine ⟨_, rfl, c0, _, (0 : Int), _, rfl, rfl, hc0, atI_nat (j := 0) rfl, rfl, _, rfl, ?_⟩
        rw [str_dec, decide_eq_false (by decide +kernel : ¬ ("fun" : Str) = "word")]
        refine iteF ⟨_, rfl, .inl ⟨rfl, _, SqL.of hl⟩, _, rfl, c0, _, (0 : Int), _, rfl, rfl, hc0, atI_nat (j := 0) rfl, _, rfl, .inl ⟨rfl, _, SqL.of hp3G⟩, _, rfl, c0, _, (1 : Int), _, rfl, rfl, hc0, atI_nat (j := 1) rfl, p3, iL os, .int (e : Nat), os.idxOf e, .int (e : Nat), rfl, rfl, SqL.of hp3G, rfl, flat_iL os, whr em, eqV_int e, first, (by show 2 ≤ sizeLine; omega), fun p6 np6 => ⟨l, zs, _, rfl, rfl, ?_, by omega, ?_⟩⟩
        · rw [upd_ne (ne_of_none hl np6)]
          exact hl
        · have s8 := Same.new (o := .tup [V.str "fun", .int (os.idxOf e : Nat)]) np6
          refine done s8 ?_
          exact .tup (SqT.of upd_same) (.cons (.str _) (.cons (.int _) .nil)) (by simp)
      | V e =>
        rw [hg] at ryG done clc
        obtain ⟨c0, ws, rfl, hc0, hws, _⟩ := ryG.tupd'
        obtain ⟨w1, w2, rfl, q1, q2⟩ := hws.pair
        cases q1
        cases q2
        have em := clc e (List.mem_singleton.mpr rfl)
        refine ⟨_, rfl, c0, _, (0 : Int), _, rfl, rfl, hc0, atI_nat (j := 0) rfl, rfl, _, rfl, ?_⟩
        rw [str_dec, decide_eq_false (by decide +kernel : ¬ ("var" : Str) = "word")]
        refine iteF ⟨_, rfl, .inl ⟨rfl, _, SqL.of hl⟩, _, rfl, c0, _, (0 : Int), _, rfl, rfl, hc0, atI_nat (j := 0) rfl, _, rfl, .inl ⟨rfl, _, SqL.of hp3G⟩, _, rfl, c0, _, (1 : Int), _, rfl, rfl, hc0, atI_nat (j := 1) rfl, p3, iL os, .int (e : Nat), os.idxOf e, .int (e : Nat), rfl, rfl, SqL.of hp3G, rfl, flat_iL os, whr em, eqV_int e, first, (by show 2 ≤ sizeLine; omega), fun p6 np6 => ⟨l, zs, _, rfl, rfl, ?_, by omega, ?_⟩⟩
        · rw [upd_ne (ne_of_none hl np6)]
          exact hl
        · have s8 := Same.new (o := .tup [V.str "var", .int (os.idxOf e : Nat)]) np6
          refine done s8 ?_
          exact .tup (SqT.of upd_same) (.cons (.str _) (.cons (.int _) .nil)) (by simp)
    rintro σ G ⟨g4, g5, zs, rfl, sG, hl, rz⟩
    have lil : (iL os).length = (ren ns os).length := by unfold iL; rw [List.length_map, ren_len]
    rw [lil, List.take_length] at rz
    have lz : zs.length = ns.length := by rw [rz.length, List.length_map, ren_len, lo]
    have jG := j04.trans (Jst.same hs4 sG)
    refine ⟨_, rfl, l, zs, rfl, .inl (SqL.of hl), ?_⟩
    refine ⟨_, rfl, a, 3, rfl, jG.2.1, by decide, small_big (by decide), fun r H6 r0 r1 o6 hs6 => ?_⟩
    have j6 := jG.trans ⟨jG.2.1, hs6, o6⟩
    have hl6 := o6 _ _ la hl
    have rz6 := RddAll.ex ((jr_st a).ex ⟨jG.2.1, hs6, o6⟩) _ rz
    obtain ⟨k, rfl⟩ := Int.eq_ofNat_of_zero_le r0
    refine ⟨k, rfl, by omega, by omega, ?_⟩
    refine for_range (lo := 0) (n := k) (fun i σ G => ∃ (g7 g8 : Option V) (zs2 : List V) (E : List GN), σ = [some (.ref a), some (.ref b0), some (.ref p3), some (.ref l), g4, g5, some (.int (zs.length : Nat)), g7, g8, none] ∧ Jst a H G ∧ G l = some (.lst zs2) ∧ RddAll K G zs2 ((ren ns os ++ E).map ndD) ∧ E.length = i ∧ ∀ g ∈ E, Extra ns.length g) ?_ ?_ ?_
    · exact ⟨none, none, zs, [], rfl, j6, hl6, by rw [List.append_nil]; exact rz6, rfl, fun g hg => by cases hg⟩
    · rintro i σ G7 hi ⟨g7, g8, zs2, E, rfl, j7, hl7, rz7, lE, hE⟩
      have lz2 : zs2.length = ns.length + i := by rw [rz7.length, List.length_map, List.length_append, ren_len, lo, lE]
      refine ⟨_, rfl, _, rfl, a, _, rfl, j7.2.1, by omega, small_big (by omega), fun c G8 c0 c1 o8 hs8 => ?_⟩
      have j78 : Jst a G7 G8 := ⟨j7.2.1, hs8, o8⟩
      have hl8 := o8 _ _ la hl7
      obtain ⟨c', rfl⟩ := Int.eq_ofNat_of_zero_le c0
      have hc' : c' < ns.length := by omega
      refine ⟨_, rfl, .inl ⟨rfl, _, SqL.of hl8⟩, _, rfl, ?_⟩
      refine pick_gv (G := G8) (ds := [.tup [.str "fun", .int (c' : Nat)], .tup [.str "word", .str "k", .tup []], .tup [.str "word", .str "at", .tup [.int (c' : Nat), .int (zs.length : Nat)]]]) (gva_cons (gv_tup (gva_cons (gv_str _) (gva_cons (gv_var rfl (.int _)) gva_nil)) (Nat.le_of_ble_eq_true rfl)) (gva_cons (gv_tup (gva_cons (gv_str _) (gva_cons (gv_str _) (gva_cons (gv_tup gva_nil (Nat.le_of_ble_eq_true rfl)) gva_nil))) (Nat.le_of_ble_eq_true rfl)) (gva_cons (gv_tup (gva_cons (gv_str _) (gva_cons (gv_str _) (gva_cons (gv_tup (gva_cons (gv_var rfl (.int _)) (gva_cons (gv_var rfl (.int _)) gva_nil)) (Nat.le_of_ble_eq_true rfl)) gva_nil))) (Nat.le_of_ble_eq_true rfl)) gva_nil))) (Same.refl _) hs8 (by simp) (by simp) fun x d H9 hd j9 rd => ?_
      have hl9 := j9.2.2 _ _ la hl8
      have j79 := j78.trans j9
      obtain ⟨g, hg, rfl⟩ : ∃ g, Extra ns.length g ∧ d = ndD g := by
        simp only [List.mem_cons, List.not_mem_nil, or_false] at hd
        rcases hd with rfl | rfl | rfl
        · exact ⟨.F c', .inl ⟨c', hc', rfl⟩, rfl⟩
        · exact ⟨.W "k" [], .inr (.inl rfl), rfl⟩
        · exact ⟨.W "at" [c', ns.length], .inr (.inr ⟨c', hc', rfl⟩), by rw [lz]; rfl⟩
      refine ⟨l, zs2, _, rfl, rfl, hl9, by omega, ?_⟩
      have xA : Ex H9 (upd H9 l (.lst (zs2 ++ [x]))) := (Off.put (a := l)).ex hl9 upd_same
      have j09 := j7.trans j79
      have jA : Jst a H (upd H9 l (.lst (zs2 ++ [x]))) := by
        refine ⟨hs, ?_, fun b o hb e => ?_⟩
        · obtain ⟨g, m, c, e, z⟩ := j09.2.1
          exact ⟨g, m, c, by rw [upd_ne (Ne.symm la)]; exact e, z⟩
        · rw [upd_ne (ne_of_none (j04.2.2 _ _ hb e) nl)]
          exact j09.2.2 _ _ hb e
      refine ⟨_, _, zs2 ++ [x], E ++ [g], rfl, jA, upd_same, ?_, by rw [List.length_append, lE]; rfl, fun g2 h2 => ?_⟩
      · rw [← List.append_assoc, List.map_append]
        exact (RddAll.ex xA _ (RddAll.ex ((jr_st a).ex j79) _ rz7)).app' (.cons (Rdd.ex xA _ rd) .nil)
      · rcases List.mem_append.mp h2 with h2 | h2
        · exact hE g2 h2
        · rw [List.mem_singleton.mp h2]
          exact hg
    · rintro σ G7 ⟨g7, g8, zs2, E, rfl, j7, hl7, rz7, lE, hE⟩
      refine ⟨_, rfl, l, zs2, rfl, .inl ⟨SqL.of hl7, fun p9 np9 => ?_⟩⟩
      have s9 := Same.new (o := .tup zs2) np9
      exact q _ _ _ (j7.trans (Jst.same j7.2.1 s9)) (tup_val upd_same (RddAll.ex (Ex.same s9) _ rz7) (by rw [List.length_map, List.length_append, ren_len, lo]; omega)) (sh_gv gt pos' hE h0 (by omega)) fun o fw => sh_back gt pos' h0 fw
end
end Sl

set_option Elab.async false
set_option linter.all false
set_option maxRecDepth 100000
set_option maxHeartbeats 400000
/-! ## _law_walked -/
namespace Sl
open PySem PySem.Spec PyProof.Rows L2
abbrev sLWalked : Stmt := topT 49
theorem scLWalked : FnScope ["_law_nodes_here", "_law_order", "_law_waits", "_law_at", "_law_found", "_law_node", "_law_one"] ["_law_nodes_here"] (defScope sLWalked) := ⟨rfl, rfl, rfl, by decide +kernel, rfl, by decide +kernel, by decide +kernel⟩
section
variable {P : Program} {w : World} {K : PySem.W.Frag} {mg : Str → Option Value} {base : Heap} {fLB : Addr} {dLB : FuncData}
def spLWalked (K : PySem.W.Frag) : Sp := fun vs H Q _ => ∃ (u : V) (ns : List GN), vs = [u] ∧ SqN K H u ns ∧ (∀ g ∈ ns, Rng ns.length g) ∧ ns.length ≤ 4000 ∧ 0 < ns.length ∧ (∀ o, FW (kd ns) [] [0] o → ∀ i ∈ o, ∀ j ∈ nums (nAt ns i), j ∈ o) ∧
  ∀ o p zs H', Cp ns 0 o → Same H H' → H p = none → H' p = some (.lst zs) → RddAll K H' zs ((ren ns o).map ndD) → Q (.ref p) H'
theorem ok_lWalked (B : Bt mg) (FLB : Fun K "_law_below" "_law_below" sLBelow fLB dLB) (bLB : Binds K dLB ["_law_node"] []) (gLB : mg "_law_below" = some (.ref fLB)) {f : Addr} {fd : FuncData} (F : Fun K "_law_walked" "_law_walked" sLWalked f fd) : FnOk P w K mg base CX0 2 f fd ["_law_nodes_here"] (spLWalked K) := by
  have GL : FnOk P w K mg base CX0 1 fLB dLB ["_law_node"] (spLBelow K) := ok_lBelow FLB B
  refine F.ok scLWalked (fun vs H Q E h => ?_) (fun cdv A outer s H vs Q E hr h => ?_)
  · obtain ⟨u, ns, rfl, _⟩ := h
    rfl
  · obtain ⟨u, ns, rfl, hu, hg, hn, hi, hcl, q⟩ := h
    have sl := sizeLine_eq
    --DW
    refine ⟨_, (pss_cons (ps_asg (pe_tup (pa_cons (pe_lst pa_nil) (pa_cons (pe_lst (pa_cons pe_int pa_nil)) pa_nil))) (pg_tup rfl (pgs_cons (pg_name (i := 1) scLWalked.nd rfl (Or.inr rfl)) (pgs_cons (pg_name (i := 2) scLWalked.nd rfl (Or.inl rfl)) pgs_nil))))
        (pss_cons (ps_while PassesOwn.never (pt_cmpR (op_neD hr.units) (pv 2) (pe_lst pa_nil) (nomark _))
        (pss_cons (ps_set (i := 3) scLWalked.nd rfl (Or.inl rfl) (pe_bm0 PySem.F.plainAttrs_list PySem.F.slot_list_pop PySem.F.type_list_pop mt_pop (pv 2)))
        (pss_one (ps_if (pt_cmpR op_notIn_seq (pv 3) (pv 1) (by rfl))
          (pss_cons (ps_expr (pe_bm PySem.F.plainAttrs_list PySem.F.slot_list_append PySem.F.type_list_append mt_append (pv 1) (pa_cons (pv 3) pa_nil)))
        (pss_one (ps_expr (pe_bm PySem.F.plainAttrs_list PySem.F.slot_list_extend PySem.F.type_list_extend mt_extend (pv 2) (pa_cons (pe_revL (pe_call GL hr (by rfl) gLB FLB.kp bLB .nil pass0 (pa_cons (pe_ix ix_seq (pv 0) (pv 3) (fun _ _ => rfl)) pa_nil))) pa_nil))))) pss_nil))))
        (pss_cons (ps_set (i := 4) scLWalked.nd rfl (Or.inl rfl) (pe_lst pa_nil))
        (pss_cons (ps_for PassesOwn.never rfl (pi_list (pv 1)) (pg_name (i := 3) scLWalked.nd rfl (Or.inl rfl))
          (pss_cons (ps_set (i := 5) scLWalked.nd rfl (Or.inl rfl) (pe_ix ix_seq (pv 0) (pv 3) (fun _ _ => rfl)))
        (pss_one (ps_if (pt_cmpR op_eq (pe_ix ix_tup (pv 5) pe_int (fun _ _ => rfl)) pe_str (nomark _))
          (pss_one (ps_expr (pe_bm PySem.F.plainAttrs_list PySem.F.slot_list_append PySem.F.type_list_append mt_append (pv 4) (pa_cons (pe_tup (pa_cons pe_str (pa_cons (pe_ix ix_tup (pv 5) pe_int (fun _ _ => rfl)) (pa_cons (pe_callTy call_tuple_of (by rfl) B.tuple (by decide +kernel) (pa_cons (pe_lc (own := [("_law_one", 6)]) (g := gName 6) (tt := tYes) (te := tBM K "list" (rIndex K) (tVar 1) (tCons (tVar 6) tNil)) rfl scLWalked.nd (pi_tup (pe_ix ix_tup (pv 5) pe_int (fun _ _ => rfl))) (blkOk_by (own := [("_law_one", 6)]) (N := ["_law_nodes_here", "_law_order", "_law_waits", "_law_at", "_law_found", "_law_node", "_law_one"]) (sc := defScope sLWalked) (by decide +kernel)) (fun _ _ _ _ _ => pg_name (i := 6) scLWalked.nd rfl (Or.inl rfl)) (fun _ _ _ _ _ => pts_nil) (fun _ _ _ _ _ => by exact (pe_bm PySem.F.plainAttrs_list PySem.F.slot_list_index PySem.F.type_list_index mt_index (pv 1) (pa_cons (pv 6) pa_nil)))) pa_nil)) pa_nil)))) pa_nil)))) (pss_one (ps_expr (pe_bm PySem.F.plainAttrs_list PySem.F.slot_list_append PySem.F.type_list_append mt_append (pv 4) (pa_cons (pe_tup (pa_cons (pe_ix ix_tup (pv 5) pe_int (fun _ _ => rfl)) (pa_cons (pe_bm PySem.F.plainAttrs_list PySem.F.slot_list_index PySem.F.type_list_index mt_index (pv 1) (pa_cons (pe_ix ix_tup (pv 5) pe_int (fun _ _ => rfl)) pa_nil)) pa_nil))) pa_nil))))))))
        (pss_one (ps_ret (pv 4))))))), ?_⟩
    --EW
    refine ⟨(by show 0 ≤ sizeLine; omega), fun f0 nf => ?_⟩
    have s1 := Same.new (o := .lst []) nf
    have hf1 : (upd H f0 (.lst [])) f0 = some (.lst (iL [])) := upd_same
    generalize upd H f0 (.lst []) = H1 at s1 hf1 ⊢
    refine ⟨(by show 1 ≤ sizeLine; omega), fun w0 nw => ⟨(by show 2 ≤ sizeLine; omega), fun t0 nt0 => ?_⟩⟩
    have s2 := Same.new (o := .lst [V.int 0]) nw
    have hw2 : (upd H1 w0 (.lst [V.int 0])) w0 = some (.lst (iL [0].reverse)) := upd_same
    have hf2 := s2 _ _ hf1
    have fw : f0 ≠ w0 := ne_of_none hf1 nw
    have nw0 := none_of s1 nw
    have s02 := s1.trans s2
    generalize upd H1 w0 (.lst [V.int 0]) = H2 at s02 hw2 hf2 nt0 ⊢
    have st0 := Same.new (o := .tup [V.ref f0, V.ref w0]) nt0
    have ht0 : (upd H2 t0 (.tup [V.ref f0, V.ref w0])) t0 = some (.tup [V.ref f0, V.ref w0]) := upd_same
    replace hf2 := st0 _ _ hf2
    replace hw2 := st0 _ _ hw2
    replace s02 := s02.trans st0
    generalize upd H2 t0 (.tup [V.ref f0, V.ref w0]) = H2 at s02 hw2 hf2 ht0 ⊢
    refine ⟨t0, _, rfl, SqT.of ht0, rfl, _, _, rfl, _, _, rfl, rfl, ?_⟩
    refine ⟨fun μ σ G => ∃ (g3 : Option V) (m st : List Nat), μ = 4 * (ns.length - m.length) + st.length ∧ σ = [some u, some (.ref f0), some (.ref w0), g3, none, none, none] ∧ Same H G ∧ G f0 = some (.lst (iL m)) ∧ G w0 = some (.lst (iL st.reverse)) ∧ m.Nodup ∧ (∀ j ∈ m, j < ns.length) ∧ (∀ j ∈ st, j < ns.length) ∧ st.length ≤ 3 * m.length + 1 ∧ ∀ o, FW (kd ns) m st o → FW (kd ns) [] [0] o,
      ⟨_, none, [], [0], rfl, rfl, s02, hf2, hw2, .nil, (by simp), (fun j hj => by rw [List.mem_singleton.mp hj]; exact hi), Nat.le_refl 1, fun o h => h⟩, ?_⟩
    rintro μ σ G ⟨g3, m, st, rfl, rfl, sG, hf, hw, ndm, ltm, lts, l3, fwo⟩
    have lm := nd_len' ndm ltm
    refine ⟨_, rfl, (by show 0 ≤ sizeLine; omega), fun e0 ne0 => ?_⟩
    have se := Same.new (o := .lst []) ne0
    have he0 : (upd G e0 (.lst [])) e0 = some (.lst []) := upd_same
    generalize upd G e0 (.lst []) = G1 at se he0 ⊢
    have sG1 := sG.trans se
    have hf1 := se _ _ hf
    have hw1 := se _ _ hw
    refine eqI_nil hw1 he0 ⟨_, rfl, ?_⟩
    cases st with
    | nil =>
      refine iteF ?_
      have fw0 := fwo m .nil
      have cl := hcl m fw0
      refine ⟨(by show 0 ≤ sizeLine; omega), fun l nl => ?_⟩
      have s5 := Same.new (o := .lst []) nl
      have hl5 : (upd G1 l (.lst [])) l = some (.lst []) := upd_same
      generalize upd G1 l (.lst []) = H5 at s5 hl5 ⊢
      have nlH := none_of sG1 nl
      refine ⟨_, rfl, f0, rfl, ⟨_, SqL.of (s5 _ _ hf1)⟩, ?_⟩
      refine for_list (xs := iL m) (fun i σ G => ∃ (g4 g5 : Option V) (zs : List V), σ = [some u, some (.ref f0), some (.ref w0), g4, some (.ref l), g5, none] ∧ Same G1 G ∧ G l = some (.lst zs) ∧ RddAll K G zs (((ren ns m).take i).map ndD)) ⟨_, none, [], rfl, s5, hl5, .nil⟩ ?_ ?_ ?_
      · rintro i σ G _ ⟨g4, g5, zs, rfl, sG, hl, rz⟩
        exact SqL.of (sG _ _ hf1)
      · rintro i x σ G hx ⟨g4, g5, zs, rfl, sG, hl, rz⟩
        unfold iL at hx
        rw [List.getElem?_map] at hx
        obtain ⟨c, hc, rfl⟩ := Option.map_eq_some_iff.mp hx
        have hi := (List.getElem?_eq_some_iff.mp hc).1
        have cm := List.mem_of_getElem? hc
        have hcn := ltm c cm
        have lzs : zs.length = i := by rw [rz.length, List.length_map, List.length_take, ren_len]; omega
        have hfG := sG _ _ hf1
        have rng := hg _ (List.mem_of_getElem? (nAt_get hcn))
        have clc := cl c cm
        refine ⟨_, rfl, _, rfl, (hu.same (sG1.trans sG)).ix hcn fun y ryG => ?_⟩
        have done : ∀ {G4 : Hp} {x : V} {g4 g5 : Option V}, Same G G4 → Rdd K G4 x (ndD (rl (fun j => m.idxOf j) (nAt ns c))) → ∃ (g4' g5' : Option V) (zs2 : List V), [some u, some (.ref f0), some (.ref w0), g4, some (.ref l), g5, none] = [some u, some (.ref f0), some (.ref w0), g4', some (.ref l), g5', none] ∧ Same G1 (upd G4 l (.lst (zs ++ [x]))) ∧ (upd G4 l (.lst (zs ++ [x]))) l = some (.lst zs2) ∧ RddAll K (upd G4 l (.lst (zs ++ [x]))) zs2 (((ren ns m).take (i + 1)).map ndD) := fun {G4 x g4 g5} s6 rx => by
          have hl6 := s6 _ _ hl
          have xA : Ex G4 (upd G4 l (.lst (zs ++ [x]))) := (Off.put (a := l)).ex hl6 upd_same
          refine ⟨g4, g5, zs ++ [x], rfl, jr_same.put (sG.trans s6) nl, upd_same, ?_⟩
          rw [List.take_add_one, ren_at hc, List.map_append]
          exact (RddAll.ex xA _ (RddAll.ex (Ex.same s6) _ rz)).app' (.cons (Rdd.ex xA _ rx) .nil)
        have first : ∀ {e : Nat} (k : Nat) (z : V), k < m.idxOf e → (iL m)[k]? = some z → eqV z (.int (e : Nat)) = false := fun {e} k z hk hz => by
          unfold iL at hz
          rw [List.getElem?_map] at hz
          obtain ⟨b, hb, rfl⟩ := Option.map_eq_some_iff.mp hz
          exact eqV_int_ne fun e2 => idx_first hk (e2 ▸ hb)
        have whr : ∀ {e : Nat}, e ∈ m → (iL m)[m.idxOf e]? = some (V.int (e : Nat)) := fun {e} he => by
          unfold iL
          rw [List.getElem?_map, idx_at he]
          rfl
        cases hg : nAt ns c with
        | W w cs =>
          rw [hg] at ryG done clc
          obtain ⟨c0, ws, rfl, hc0, hws, _⟩ := ryG.tupd'
          obtain ⟨w1, w2, w3, rfl, q1, q2, q3⟩ := hws.trip
          cases q1
          cases q2
          obtain ⟨t, ts, rfl, ht, hts, _⟩ := q3.tupd'
          have ets := iD_ints hts
          have lcs : cs.length ≤ 3 := by
            rw [hg] at rng
            exact rng.2.1
          refine ⟨_, rfl, c0, _, (0 : Int), _, rfl, rfl, hc0, atI_nat (j := 0) rfl, rfl, _, rfl, ?_⟩
          rw [str_dec, decide_eq_true rfl]
          refine iteT ⟨_, rfl, .inl ⟨rfl, _, SqL.of hl⟩, _, rfl, c0, _, (1 : Int), _, rfl, rfl, hc0, atI_nat (j := 1) rfl, _, rfl, c0, _, (2 : Int), .ref t, rfl, rfl, hc0, atI_nat (j := 2) rfl, t, rfl, ⟨_, ht⟩, fun D0 nD => ?_⟩
          refine lcT (cs.map fun e => some (V.int (m.idxOf e : Nat))) (by rw [List.length_map, ets, List.length_map]) (by rw [ets, List.length_map]; omega) ht nD ?_ ?_
          · intro k z G4 Q2 Z2 hz s6 hQ _
            rw [ets] at hz
            rw [List.getElem?_map] at hz
            obtain ⟨e, he, rfl⟩ := Option.map_eq_some_iff.mp hz
            have em := clc e (List.mem_of_getElem? he)
            refine ⟨rfl, ?_⟩
            refine iteT (B := Z2 G4) ⟨_, rfl, .inl ⟨rfl, _, SqL.of (s6 _ _ hfG)⟩, _, rfl, f0, iL m, .int (e : Nat), m.idxOf e, .int (e : Nat), rfl, rfl, SqL.of (s6 _ _ hfG), rfl, flat_iLk m, whr em, eqV_int e, first, hQ _ _ ?_ (Same.refl _)⟩
            rw [List.getElem?_map, he]
            rfl
          · intro G4 s6 hD
            have ef : (cs.map fun e => some (V.int (m.idxOf e : Nat))).filterMap id = iL (cs.map fun j => m.idxOf j) := by
              unfold iL
              rw [List.map_map, List.filterMap_map, ← List.filterMap_eq_map]
              rfl
            rw [ef] at hD
            refine ⟨D0, _, rfl, .inl ⟨SqL.of hD, fun p5 np5 => ?_⟩⟩
            have s7 := Same.new (o := .tup (iL (cs.map fun j => m.idxOf j))) np5
            have h7 : (upd G4 p5 (.tup (iL (cs.map fun j => m.idxOf j)))) p5 = some (.tup (iL (cs.map fun j => m.idxOf j))) := upd_same
            generalize upd G4 p5 (.tup (iL (cs.map fun j => m.idxOf j))) = G5 at s7 h7 ⊢
            refine ⟨(by show 3 ≤ sizeLine; omega), fun p6 np6 => ⟨l, zs, _, rfl, rfl, ?_, by omega, ?_⟩⟩
            · rw [upd_ne (ne_of_none ((s6.trans s7) _ _ hl) np6)]
              exact (s6.trans s7) _ _ hl
            · have s8 := Same.new (o := .tup [V.str "word", .str w, .ref p5]) np6
              refine done ((s6.trans s7).trans s8) ?_
              exact .tup (SqT.of upd_same) (.cons (.str _) (.cons (.str _) (.cons (.tup (SqT.of (s8 _ _ h7)) (of_ints _) (by unfold iD; rw [List.length_map, List.length_map]; omega)) .nil))) (by simp)
        | F e =>
          rw [hg] at ryG done clc
          obtain ⟨c0, ws, rfl, hc0, hws, _⟩ := ryG.tupd'
          obtain ⟨w1, w2, rfl, q1, q2⟩ := hws.pair
          cases q1
          cases q2
          have em := clc e (List.mem_singleton.mpr rfl)
          refine ⟨_, rfl, c0, _, (0 : Int), _, rfl, rfl, hc0, atI_nat (j := 0) rfl, rfl, _, rfl, ?_⟩
          rw [str_dec, decide_eq_false (by decide +kernel : ¬ ("fun" : Str) = "word")]
          refine iteF ⟨_, rfl, .inl ⟨rfl, _, SqL.of hl⟩, _, rfl, c0, _, (0 : Int), _, rfl, rfl, hc0, atI_nat (j := 0) rfl, _, rfl, .inl ⟨rfl, _, SqL.of hfG⟩, _, rfl, c0, _, (1 : Int), _, rfl, rfl, hc0, atI_nat (j := 1) rfl, f0, iL m, .int (e : Nat), m.idxOf e, .int (e : Nat), rfl, rfl, SqL.of hfG, rfl, flat_iLk m, whr em, eqV_int e, first, (by show 2 ≤ sizeLine; omega), fun p6 np6 => ⟨l, zs, _, rfl, rfl, ?_, by omega, ?_⟩⟩
          · rw [upd_ne (ne_of_none hl np6)]
            exact hl
          · have s8 := Same.new (o := .tup [V.str "fun", .int (m.idxOf e : Nat)]) np6
            refine done s8 ?_
            exact .tup (SqT.of upd_same) (.cons (.str _) (.cons (.int _) .nil)) (by simp)
        | V e =>
          rw [hg] at ryG done clc
          obtain ⟨c0, ws, rfl, hc0, hws, _⟩ := ryG.tupd'
          obtain ⟨w1, w2, rfl, q1, q2⟩ := hws.pair
          cases q1
          cases q2
          have em := clc e (List.mem_singleton.mpr rfl)
          refine ⟨_, rfl, c0, _, (0 : Int), _, rfl, rfl, hc0, atI_nat (j := 0) rfl, rfl, _, rfl, ?_⟩
          rw [str_dec, decide_eq_false (by decide +kernel : ¬ ("var" : Str) = "word")]
          refine iteF ⟨_, rfl, .inl ⟨rfl, _, SqL.of hl⟩, _, rfl, c0, _, (0 : Int), _, rfl, rfl, hc0, atI_nat (j := 0) rfl, _, rfl, .inl ⟨rfl, _, SqL.of hfG⟩, _, rfl, c0, _, (1 : Int), _, rfl, rfl, hc0, atI_nat (j := 1) rfl, f0, iL m, .int (e : Nat), m.idxOf e, .int (e : Nat), rfl, rfl, SqL.of hfG, rfl, flat_iLk m, whr em, eqV_int e, first, (by show 2 ≤ sizeLine; omega), fun p6 np6 => ⟨l, zs, _, rfl, rfl, ?_, by omega, ?_⟩⟩
          · rw [upd_ne (ne_of_none hl np6)]
            exact hl
          · have s8 := Same.new (o := .tup [V.str "var", .int (m.idxOf e : Nat)]) np6
            refine done s8 ?_
            exact .tup (SqT.of upd_same) (.cons (.str _) (.cons (.int _) .nil)) (by simp)
      · rintro σ G ⟨g4, g5, zs, rfl, sG, hl, rz⟩
        have lil : (iL m).length = (ren ns m).length := by unfold iL; rw [List.length_map, ren_len]
        rw [lil, List.take_length] at rz
        exact ⟨_, rfl, q m l zs G ⟨fw0, ndm, ltm⟩ (sG1.trans sG) nlH hl rz⟩
    | cons x st =>
      have es : iL (x :: st).reverse = iL st.reverse ++ [V.int (x : Nat)] := by
        unfold iL
        rw [List.reverse_cons, List.map_append]
        rfl
      have hx := lts x List.mem_cons_self
      rw [show (!(x :: st).reverse.isEmpty) = true by simp]
      rw [es] at hw1
      refine iteT ⟨fun σ2 G2 => ∃ (m2 st2 : List Nat), 4 * (ns.length - m2.length) + st2.length < 4 * (ns.length - m.length) + (x :: st).length ∧ ∃ (g3 : Option V), σ2 = [some u, some (.ref f0), some (.ref w0), g3, none, none, none] ∧ Same H G2 ∧ G2 f0 = some (.lst (iL m2)) ∧ G2 w0 = some (.lst (iL st2.reverse)) ∧ m2.Nodup ∧ (∀ j ∈ m2, j < ns.length) ∧ (∀ j ∈ st2, j < ns.length) ∧ st2.length ≤ 3 * m2.length + 1 ∧ ∀ o, FW (kd ns) m2 st2 o → FW (kd ns) [] [0] o, ?_, ?_⟩
      · rintro σ2 G2 ⟨m2, st2, l2, g3, rest⟩
        exact ⟨_, l2, g3, m2, st2, rfl, rest⟩
      refine ⟨_, rfl, .inl ⟨rfl, _, SqL.of hw1⟩, w0, _, .int (x : Nat), rfl, rfl, hw1, by simp, ?_⟩
      rw [List.dropLast_concat]
      have sG2 : Same H (upd G1 w0 (.lst (iL st.reverse))) := jr_same.put sG1 nw0
      have hf2 : (upd G1 w0 (.lst (iL st.reverse))) f0 = some (.lst (iL m)) := by rw [upd_ne fw]; exact hf1
      have hw2 : (upd G1 w0 (.lst (iL st.reverse))) w0 = some (.lst (iL st.reverse)) := upd_same
      generalize upd G1 w0 (.lst (iL st.reverse)) = G2 at sG2 hf2 hw2 ⊢
      refine ⟨_, rfl, _, rfl, f0, iL m, rfl, .inl (SqL.of hf2), rfl, flat_iLk m, ?_⟩
      rw [if_pos rfl, inV_iL]
      rw [List.length_cons] at l3 ⊢
      by_cases hm : x ∈ m
      · rw [decide_eq_true hm]
        exact ⟨_, rfl, iteF ⟨m, st, by omega, _, rfl, sG2, hf2, hw2, ndm, ltm, (fun j hj => lts j (List.mem_cons_of_mem _ hj)), by omega, fun o h => fwo o (.old hm h)⟩⟩
      · rw [decide_eq_false hm]
        have nd2 : (m ++ [x]).Nodup := List.nodup_append.mpr ⟨ndm, by simp, fun a ha b hb => by
          rw [List.mem_singleton.mp hb]
          exact fun z => hm (z ▸ ha)⟩
        have lt2 : ∀ j ∈ m ++ [x], j < ns.length := fun j hj => by
          rcases List.mem_append.mp hj with hj | hj
          · exact ltm j hj
          · rw [List.mem_singleton.mp hj]; exact hx
        have lm2 := nd_len' nd2 lt2
        rw [List.length_append, List.length_singleton] at lm2
        have lim : (iL m).length = m.length := List.length_map ..
        refine ⟨_, rfl, iteT ⟨_, rfl, .inl ⟨rfl, _, SqL.of hf2⟩, .int (x : Nat), rfl, f0, iL m, _, rfl, rfl, hf2, by omega, ?_⟩⟩
        have sG3 : Same H (upd G2 f0 (.lst (iL m ++ [V.int (x : Nat)]))) := jr_same.put sG2 nf
        have hf3 : (upd G2 f0 (.lst (iL m ++ [V.int (x : Nat)]))) f0 = some (.lst (iL (m ++ [x]))) := by
          rw [upd_same]
          unfold iL
          rw [List.map_append]
          rfl
        have hw3 : (upd G2 f0 (.lst (iL m ++ [V.int (x : Nat)]))) w0 = some (.lst (iL st.reverse)) := by rw [upd_ne (Ne.symm fw)]; exact hw2
        generalize upd G2 f0 (.lst (iL m ++ [V.int (x : Nat)])) = G3 at sG3 hf3 hw3 ⊢
        have hat := nAt_get hx
        have kdx : kd ns x = gk (nAt ns x) := kd_at hat
        have gr := gk_rng (hg _ (List.mem_of_getElem? hat))
        refine ⟨_, rfl, .inl ⟨rfl, _, SqL.of hw3⟩, ?_⟩
        refine ⟨_, rfl, _, rfl, (hu.same sG3).ix hx fun y ry => ⟨y, nAt ns x, rfl, ry, fun p G4 s4 np hp => ?_⟩⟩
        refine ⟨p, _, rfl, SqL.of hp, fun r nr => ?_⟩
        have s5 := Same.new (o := .lst (iL (gk (nAt ns x))).reverse) nr
        have hr5 : (upd G4 r (.lst (iL (gk (nAt ns x))).reverse)) r = some (.lst (iL (gk (nAt ns x))).reverse) := upd_same
        generalize upd G4 r (.lst (iL (gk (nAt ns x))).reverse) = G5 at s5 hr5 ⊢
        have s35 := s4.trans s5
        refine ⟨w0, r, _, _, rfl, rfl, s35 _ _ hw3, hr5, ?_, ?_⟩
        · have e1 : (iL st.reverse).length = st.length := by unfold iL; rw [List.length_map, List.length_reverse]
          have e2 : (iL (gk (nAt ns x))).reverse.length = (gk (nAt ns x)).length := by rw [List.length_reverse]; exact List.length_map ..
          have g1 := gr.1
          omega
        refine ⟨m ++ [x], gk (nAt ns x) ++ st, ?_, _, rfl, jr_same.put (sG3.trans s35) nw0, by rw [upd_ne fw]; exact s35 _ _ hf3, ?_, nd2, lt2, fun j hj => ?_, ?_, fun o h => fwo o (.new hm (by rw [kdx]; exact h))⟩
        · simp only [List.length_append, List.length_singleton]
          have g1 := gr.1
          omega
        · rw [upd_same]
          unfold iL
          rw [List.reverse_append, List.map_append, List.map_reverse (l := gk (nAt ns x))]
        · rcases List.mem_append.mp hj with hj | hj
          · exact gr.2 j hj
          · exact lts j (List.mem_cons_of_mem _ hj)
        · simp only [List.length_append, List.length_singleton]
          have g1 := gr.1
          omega
end
end Sl

set_option Elab.async false
set_option linter.all false
set_option maxRecDepth 100000
set_option maxHeartbeats 400000
/-! ## _law_made_right -/
namespace Sl
open PySem PySem.Spec PyProof.Rows L2
--HM
abbrev sLMade : Stmt := topT 53
theorem scLMade : FnScope ["_law_stream_here", "_law_nodes_here", "_law_graph_here", "_law_odd", "_law_other", "_law_functions", "_law_told", "_law_at", "_law_node", "_law_spot"] ["_law_stream_here", "_law_nodes_here"] (defScope sLMade) := ⟨rfl, rfl, rfl, by decide +kernel, rfl, by decide +kernel, by decide +kernel⟩
--hM
section
variable {P : Program} {w : World} {K : PySem.W.Frag} {mg : Str → Option Value} {base : Heap} {C : Addr}
/-- pairs of equal nodes -/
def ndQ (g : GN) : PyData := .tuple [ndP g, ndP g]
theorem sqL_same {H H' : Hp} (s : Same H H') {a : Addr} {xs : List V} (h : SqL K H a xs) : SqL K H' a xs := by
  rcases h with (h | ⟨ob, h⟩) | h
  · exact .inl (.inl (s _ _ h))
  · exact .inl (.inr ⟨ob, s _ _ h⟩)
  · exact .inr h
mutual
theorem Dp.same' {H H' : Hp} (s : Same H H') : ∀ (d : PyData) {v : V}, Dp K H v d → Dp K H' v d
  | .none, _, h => by cases h; exact .non
  | .bool b, _, h => by cases h; exact .bl b
  | .int i, _, h => by cases h; exact .int i
  | .str x, _, h => by cases h; exact .str x
  | .list ds, _, h => by
    cases h with
    | lst hs ha => exact .lst (sqL_same s hs) (DpAll.same' s ds ha)
  | .tuple ds, _, h => by
    cases h with
    | tup hs ha => exact .tup ((Ex.same s).tup hs) (DpAll.same' s ds ha)
theorem DpAll.same' {H H' : Hp} (s : Same H H') : ∀ (ds : List PyData) {vs : List V}, DpAll K H vs ds → DpAll K H' vs ds
  | [], _, h => by cases h; exact .nil
  | d :: ds, _, h => by
    cases h with
    | cons h1 h2 => exact .cons (Dp.same' s d h1) (DpAll.same' s ds h2)
end
theorem _root_.L2.Dp.same {H H' : Hp} {d : PyData} {v : V} (h : Dp K H v d) (s : Same H H') : Dp K H' v d := Dp.same' s d h
theorem Dpz {H H' : Hp} {p : Addr} {ts : List Addr} {xs ys : List V} {ns : List GN} (z : ZipTo H H' p ts xs ys) (hx : RddAll K H xs (ns.map ndD)) (hy : RddAll K H ys (ns.map ndD)) : ZipTo H H' p ts xs ys ∧ RddAll K H' xs (ns.map ndD) ∧ RddAll K H' ys (ns.map ndD) :=
  ⟨z, RddAll.ex (Ex.same z.1) _ hx, RddAll.ex (Ex.same z.1) _ hy⟩
theorem ndq_all {H : Hp} : ∀ {ns : List GN} {vs : List V}, vs.length = ns.length → (∀ (i : Nat) (v : V) (g : GN), vs[i]? = some v → ns[i]? = some g → Dp K H v (ndQ g)) → DpAll K H vs (ns.map ndQ)
  | [], [], _, _ => .nil
  | [], _ :: _, h, _ => by simp at h
  | _ :: _, [], h, _ => by simp at h
  | g :: ns, v :: vs, h, q => .cons (q 0 v g rfl rfl) (ndq_all (Nat.succ.inj h) fun i v g e1 e2 => q (i + 1) v g e1 e2)
theorem zip_dp {H H' H2 : Hp} {p : Addr} {ts : List Addr} {xs ys : List V} {ns : List GN} (h : ZipTo H H' p ts xs ys ∧ RddAll K H' xs (ns.map ndD) ∧ RddAll K H' ys (ns.map ndD)) (s : Same H' H2) : Dp K H2 (.ref p) (.list (ns.map ndQ)) := by
  obtain ⟨⟨_, _, _, _, hp, hl, hat⟩, hx, hy⟩ := h
  have lx := hx.length
  have ly := hy.length
  rw [List.length_map] at lx ly
  refine .lst (SqL.of (s _ _ hp)) (ndq_all (by rw [List.length_map]; omega) fun i v g e1 e2 => ?_)
  rw [List.getElem?_map] at e1
  obtain ⟨t, ht, rfl⟩ := Option.map_eq_some_iff.mp e1
  have hi := (List.getElem?_eq_some_iff.mp e2).1
  have ex := List.getElem?_eq_getElem (l := xs) (i := i) (by omega)
  have ey := List.getElem?_eq_getElem (l := ys) (i := i) (by omega)
  have ht' := hat i t _ _ ht ex ey
  obtain ⟨d1, hd1, r1⟩ := hx.get ex
  obtain ⟨d2, hd2, r2⟩ := hy.get ey
  rw [List.getElem?_map, e2] at hd1 hd2
  cases hd1
  cases hd2
  exact .tup (SqT.of (s _ _ ht')) (.cons (nd_dp (Rdd.ex (Ex.same s) _ r1)) (.cons (nd_dp (Rdd.ex (Ex.same s) _ r2)) .nil))
theorem ndq_lst {n : Nat} {ns : List GN} (h : ∀ g ∈ ns, Rng n g) : SeqAt.shaped (.list (ns.map ndQ)) = true ∧ PyData.eqv (.list (ns.map ndQ)) (.list (ns.map ndQ)) = true := by
  have key : ∀ ns : List GN, (∀ g ∈ ns, Rng n g) → PyData.canLayAll0 (ns.map ndQ) = true ∧ PyData.depthAll (ns.map ndQ) ≤ 3 := fun ns => by
    induction ns with
    | nil => intro _; simp [PyData.canLayAll0, PyData.depthAll]
    | cons g ns ih =>
      intro h
      have ⟨h1, h2⟩ := ih fun x hx => h x (List.mem_cons_of_mem _ hx)
      have ⟨g1, g2⟩ := nds_lay (n := n) (ns := [g]) fun x hx => h x (by rw [List.mem_singleton.mp hx]; exact List.mem_cons_self)
      simp only [List.map_cons, List.map_nil, PyData.canLayAll0, PyData.depthAll, Bool.and_true] at g1 g2
      rw [List.map_cons, PyData.canLayAll0, PyData.depthAll, h1]
      simp only [ndQ, PyData.canLay0, PyData.canLayAll0, PyData.depth, PyData.depthAll, g1]
      exact ⟨rfl, by omega⟩
  have ⟨h1, h2⟩ := key ns h
  refine ⟨?_, SeqAt.eqv_refl _ (by simp only [PyData.canLay0]; exact h1)⟩
  unfold SeqAt.shaped
  simp only [PyData.canLay0, PyData.depth, h1, Bool.true_and]
  exact decide_eq_true (by omega)
theorem gr_off {H H' : Hp} {a x : Addr} {ns : List GN} {R S : List (List Nat)} (j : Jst a H H') (hp : 0 < ns.length) (gr : GrAt K C H x ns R S) : GrAt K C H' x ns R S := by
  obtain ⟨dx, pR, pS, vN, h1, h2, ⟨ys, hR, rR⟩, ⟨zs, hS, rS⟩⟩ := id gr.ex
  obtain ⟨g, m, c, ha, _⟩ := id j.1
  have nt : ∀ {p : Addr} {ws : List V} {X : List (List Nat)}, H p = some (.lst ws) → RddAll K H ws (X.map fun r => D.tup (iD r)) → 0 < X.length → p ≠ a := fun {p ws X} hp hr hl z => by
    rw [z, ha] at hp
    cases hp
    cases X with
    | nil => simp at hl
    | cons r X =>
      rw [List.map_cons] at hr
      cases hr with
      | cons q _ => cases q
  have lR : R.length = ns.length := gr.rows.len
  have lS : S.length = ns.length := by rw [← gr.rows.len]; exact gr.sc.len
  have nx : x ≠ a := ne_of h1 ha (by intro z; cases z)
  have e := (jr_st a).ex j
  exact ⟨⟨dx, pR, pS, vN, j.2.2 _ _ nx h1, Rdd.ex e _ h2, ⟨ys, j.2.2 _ _ (nt hR rR (by omega)) hR, RddAll.ex e _ rR⟩, ⟨zs, j.2.2 _ _ (nt hS rS (by omega)) hS, RddAll.ex e _ rS⟩⟩, gr.rows, gr.sc⟩
theorem RddAll.take' {H : Hp} : ∀ {vs : List V} {ds : List D} (k : Nat), RddAll K H vs ds → RddAll K H (vs.take k) (ds.take k)
  | _, _, 0, _ => by rw [List.take_zero, List.take_zero]; exact .nil
  | _, _, _ + 1, .nil => .nil
  | _, _, k + 1, .cons h t => .cons h (RddAll.take' k t)
def spLMade (K : PySem.W.Frag) (C : Addr) : Sp := fun vs H Q _ => ∃ (a : Addr) (u : V) (ns : List GN), vs = [.ref a, u] ∧ Stm a H ∧ Rdd K H u (.tup (ns.map ndD)) ∧ GT ns ∧ ∀ H', Jst a H H' → Q (.bl true) H'
theorem ok_lMade (B : Bt mg) (L : Gr K mg C) (Ic : C8.InsC K C) (hne : PySem.W.findIn K (.ref C) "__ne__" = some (some (.builtin "object.__ne__")))
    (UNo : Up P w K mg base C "nodes" 1 (spGNodes K C)) (UFu : Up P w K mg base C "functions" 1 (spGFuns K C)) (UEq : Um P w K mg base C "__eq__" ["self", "other"] 1 (spGEqT K C)) (ULe : Um P w K mg base C "__len__" ["self"] 1 (spGLen K C))
    (UIt : Um P w K mg base C "__getitem__" ["self", "node"] 5 (spGItem K C)) (hfi : PySem.W.fnIn K UIt.f = true) (UIr : Uy P w K mg base C 1 (spGIter K C)) (USt : Um P w K mg base C "__str__" ["self"] 3 (spGStr K C)) (UOf : Uc P w K mg base C "Graph" "of" 8 (spGOf K C))
    (USh : Uf P w K mg base "_law_shuffled" ["_law_stream_here", "_law_nodes_here"] 3 (spShuf K)) (UWa : Uf P w K mg base "_law_walked" ["_law_nodes_here"] 2 (spLWalked K))
    {f : Addr} {fd : FuncData} (F : Fun K "_law_made_right" "_law_made_right" sLMade f fd) : FnOk P w K mg base CX0 9 f fd ["_law_stream_here", "_law_nodes_here"] (spLMade K C) := by
  refine F.ok scLMade (fun vs H Q E h => ?_) (fun cdv A outer s H vs Q E hr h => ?_)
  · obtain ⟨a, u, ns, rfl, _⟩ := h
    rfl
  · obtain ⟨a, u, ns, rfl, st, ru, gt, q⟩ := h
    --SM
    have h1 := hr.mono (by decide : 1 ≤ 8)
    have h2 := hr.mono (by decide : 2 ≤ 8)
    have h3 := hr.mono (by decide : 3 ≤ 8)
    have h5 := hr.mono (by decide : 5 ≤ 8)
    have h6 := hr.mono (by decide : 6 ≤ 8)
    have h8 := hr.mono (by decide : 8 ≤ 8)
    --sM
    have sl := sizeLine_eq
    --DM
    refine ⟨_, (pss_cons (ps_par (i := 2) (j := 3) (by rfl) scLMade.nd rfl rfl (by decide) rfl rfl (pa_cons (ClX.pe_cmeth (pe_glob (v := .ref C) (by rfl) UOf.g rfl) UOf.rd UOf.cm UOf.G h8 pass0 (pa_cons (pv 1) pa_nil)) (pa_cons (pe_call USh.G h3 (by rfl) USh.g USh.kp USh.b .nil pass0 (pa_cons (pv 0) (pa_cons (pv 1) pa_nil))) pa_nil)) (by rfl))
        (pss_cons (ps_set (i := 4) scLMade.nd rfl (Or.inr rfl) (ClX.pe_cmeth (pe_glob (v := .ref C) (by rfl) UOf.g rfl) UOf.rd UOf.cm UOf.G h8 pass0 (pa_cons (pv 3) pa_nil)))
        (pss_cons (ps_if (PW.pt (pw_or (pt_cmpR (op_neD hr.units) (pe_prop (pv 2) L.cl UNo.M UNo.G h2 UNo.b .nil pass0 rfl) (pv 1) (nomark _)) (pw_or (pt_cmpR (op_neD hr.units) (pe_prop (pv 4) L.cl UNo.M UNo.G h2 UNo.b .nil pass0 rfl) (pv 1) (nomark _)) (pw_or1 (pt_cmpR (op_neD hr.units) (pe_callTy call_list_of (by rfl) B.list (by decide +kernel) (pa_cons (pe_call UWa.G h2 (by rfl) UWa.g UWa.kp UWa.b .nil pass0 (pa_cons (pe_callTy call_list_of (by rfl) B.list (by decide +kernel) (pa_cons (pv 3) pa_nil)) pa_nil)) pa_nil)) (pe_callTy call_list_of (by rfl) B.list (by decide +kernel) (pa_cons (pv 1) pa_nil)) (nomark _))))))
          (pss_one (ps_ret pe_bl)) pss_nil)
        (pss_cons (ps_if (PW.pt (pw_or (pt_not (pt_cmpR (op_eqOwn UEq.M.at_ UEq.M.fn UEq.R h1 pass0) (pv 2) (pv 4) (nomark _))) (pw_or (pt_cmpR (op_neOwn hne Ic.hm UEq.M.at_ UEq.M.fn UEq.R h2 pass0) (pv 2) (pv 4) (nomark _)) (pw_or1 (pt_cmpR op_ne (pe_callB (call_lenOwn ULe.M.at_ ULe.M.fn ULe.R h2 pass0) (by rfl) B.len PySem.boot_len (pa_cons (pv 4) pa_nil)) (pe_callB call_len_seq (by rfl) B.len PySem.boot_len (pa_cons (pv 1) pa_nil)) (nomark _))))))
          (pss_one (ps_ret pe_bl)) pss_nil)
        (pss_cons (ps_set (i := 5) scLMade.nd rfl (Or.inl rfl) (pe_callTy call_tuple_of (by rfl) B.tuple (by decide +kernel) (pa_cons (pe_lc (own := [("_law_at", 7), ("_law_node", 8)]) (g := gTup K 2 (gCons (gName 7) (gCons (gName 8) gNil))) (tt := tTest (tOp rEq (tOp (rIxT K) (tVar 8) (tC (.int 0))) (tC (.str "fun")))) (te := tVar 7) rfl scLMade.nd (pi_enumT (by rfl) B.enum (pa_cons (pv 1) pa_nil)) (blkOk_by (own := [("_law_at", 7), ("_law_node", 8)]) (N := ["_law_stream_here", "_law_nodes_here", "_law_graph_here", "_law_odd", "_law_other", "_law_functions", "_law_told", "_law_at", "_law_node", "_law_spot"]) (sc := defScope sLMade) (by decide +kernel)) (fun _ _ _ _ _ => (pg_tup rfl (pgs_cons (pg_name (i := 7) scLMade.nd rfl (Or.inl rfl)) (pgs_cons (pg_name (i := 8) scLMade.nd rfl (Or.inl rfl)) pgs_nil)))) (fun _ _ _ _ _ => pts_one (by exact (pt_cmpR op_eq (pe_ix ix_tup (pv 8) pe_int (fun _ _ => rfl)) pe_str (nomark _)))) (fun _ _ _ _ _ => by exact (pv 7))) pa_nil)))
        (pss_cons (ps_if (PW.pt (pw_or (pt_cmpR (op_neD hr.units) (pe_prop (pv 2) L.cl UFu.M UFu.G h2 UFu.b .nil pass0 rfl) (pv 5) (nomark _)) (pw_or1 (pt_cmpR (op_neD hr.units) (pe_lc (own := [("_law_at", 7)]) (g := gName 7) (tt := tYes) (te := tOp (rIxOwn C (spGItem K C) E0) (tVar 4) (tVar 7)) rfl scLMade.nd (pi_range1 (by rfl) B.range (pa_cons (pe_callB call_len_seq (by rfl) B.len PySem.boot_len (pa_cons (pv 1) pa_nil)) pa_nil)) (blkOk_by (own := [("_law_at", 7)]) (N := ["_law_stream_here", "_law_nodes_here", "_law_graph_here", "_law_odd", "_law_other", "_law_functions", "_law_told", "_law_at", "_law_node", "_law_spot"]) (sc := defScope sLMade) (by decide +kernel)) (fun _ _ _ _ _ => pg_name (i := 7) scLMade.nd rfl (Or.inl rfl)) (fun _ _ _ _ _ => pts_nil) (fun _ _ _ _ _ => by exact (pe_ixOwn UIt.M.at_ hfi UIt.M.fn UIt.R h6 pass0 (pv 4) (pv 7)))) (pe_callTy call_list_of (by rfl) B.list (by decide +kernel) (pa_cons (pv 1) pa_nil)) (nomark _)))))
          (pss_one (ps_ret pe_bl)) pss_nil)
        (pss_cons (ps_if (PW.pt (pw_or (pt_cmpR (op_neD hr.units) (pe_listZipS UIr.M.at_ UIr.M.fn UIr.G h3 passL rfl (pa_cons (pv 4) (pa_cons (pv 4) pa_nil)) (by rfl) B.list (by decide +kernel) (by rfl) B.zip) (pe_listZipS UIr.M.at_ UIr.M.fn UIr.G h3 passL rfl (pa_cons (pv 1) (pa_cons (pv 1) pa_nil)) (by rfl) B.list (by decide +kernel) (by rfl) B.zip) (nomark _)) (pw_or1 (pt_cmpR (op_neD hr.units) (pe_lc (own := [("_law_node", 8)]) (g := gName 8) (tt := tYes) (te := tVar 8) rfl scLMade.nd (pi_own UIr.M.at_ UIr.M.fn UIr.G h1 passL (pv 4)) (blkOk_by (own := [("_law_node", 8)]) (N := ["_law_stream_here", "_law_nodes_here", "_law_graph_here", "_law_odd", "_law_other", "_law_functions", "_law_told", "_law_at", "_law_node", "_law_spot"]) (sc := defScope sLMade) (by decide +kernel)) (fun _ _ _ _ _ => pg_name (i := 8) scLMade.nd rfl (Or.inl rfl)) (fun _ _ _ _ _ => pts_nil) (fun _ _ _ _ _ => by exact (pv 8))) (pe_callTy call_list_of (by rfl) B.list (by decide +kernel) (pa_cons (pv 1) pa_nil)) (nomark _)))))
          (pss_one (ps_ret pe_bl)) pss_nil)
        (pss_cons (ps_if (PW.pt (pw_or (pt_cmpR (op_neD hr.units) (pe_lc (own := [("_law_spot", 9), ("_law_node", 8)]) (g := gTup K 2 (gCons (gName 9) (gCons (gName 8) gNil))) (tt := tYes) (te := tVar 8) rfl scLMade.nd (pi_zipR UIr.M.at_ UIr.M.fn UIr.G h3 passL (by rfl) B.zip (pa_cons (pe_callTy cr_range1 (by rfl) B.range (by decide +kernel) (pa_cons pe_int pa_nil)) (pa_cons (pv 4) pa_nil))) (blkOk_by (own := [("_law_spot", 9), ("_law_node", 8)]) (N := ["_law_stream_here", "_law_nodes_here", "_law_graph_here", "_law_odd", "_law_other", "_law_functions", "_law_told", "_law_at", "_law_node", "_law_spot"]) (sc := defScope sLMade) (by decide +kernel)) (fun _ _ _ _ _ => (pg_tup rfl (pgs_cons (pg_name (i := 9) scLMade.nd rfl (Or.inl rfl)) (pgs_cons (pg_name (i := 8) scLMade.nd rfl (Or.inl rfl)) pgs_nil)))) (fun _ _ _ _ _ => pts_nil) (fun _ _ _ _ _ => by exact (pv 8))) (pe_callTy call_list_of (by rfl) B.list (by decide +kernel) (pa_cons (pe_slice sl_tupA (pv 1) po_none (po_some pe_int)) pa_nil)) (nomark _)) (pw_or1 (pt_cmpR (op_neD hr.units) (pe_lc (own := [("_law_node", 8)]) (g := gName 8) (tt := tYes) (te := tVar 8) rfl scLMade.nd (pi_own UIr.M.at_ UIr.M.fn UIr.G h1 passL (pv 4)) (blkOk_by (own := [("_law_node", 8)]) (N := ["_law_stream_here", "_law_nodes_here", "_law_graph_here", "_law_odd", "_law_other", "_law_functions", "_law_told", "_law_at", "_law_node", "_law_spot"]) (sc := defScope sLMade) (by decide +kernel)) (fun _ _ _ _ _ => pg_name (i := 8) scLMade.nd rfl (Or.inl rfl)) (fun _ _ _ _ _ => pts_nil) (fun _ _ _ _ _ => by exact (pv 8))) (pe_callTy call_list_of (by rfl) B.list (by decide +kernel) (pa_cons (pv 1) pa_nil)) (nomark _)))))
          (pss_one (ps_ret pe_bl)) pss_nil)
        (pss_cons (ps_set (i := 6) scLMade.nd rfl (Or.inl rfl) (pe_op op_add_str (pe_op op_add_str pe_str (pe_callTy call_str_int (by rfl) B.str (by decide +kernel) (pa_cons (pe_callB call_len_seq (by rfl) B.len PySem.boot_len (pa_cons (pv 1) pa_nil)) pa_nil))) pe_str))
        (pss_one (ps_ret (pe_cmpR op_eq (pe_callTy (call_strOwn USt.M.at_ USt.M.fn USt.R h5 pass0) (by rfl) B.str (by decide +kernel) (pa_cons (pv 2) pa_nil)) (pe_op op_add_str (pe_op op_add_str (pv 6) (pe_callTy call_str_int (by rfl) B.str (by decide +kernel) (pa_cons (pe_callB call_len_seq (by rfl) B.len PySem.boot_len (pa_cons (pv 5) pa_nil)) pa_nil))) pe_str) (nomark _))))))))))))), ?_⟩
    --EM
    refine ⟨rfl, _, rfl, u, ns, rfl, ru, gt_gv gt, fun o R S x H1 fw nd lt s1 gr => ?_⟩
    rw [gt_ren gt fw] at gr
    refine ⟨_, rfl, _, rfl, a, u, ns, rfl, st.same s1, Rdd.ex (Ex.same s1) _ ru, gt, fun u2 H2 ms j2 ru2 gv bk => ⟨_, _, rfl, ?_⟩⟩
    refine ⟨rfl, _, rfl, u2, ms, rfl, ru2, gv, fun o2 R2 S2 y H3 fw2 nd2 lt2 s3 gr2 => ?_⟩
    rw [bk o2 fw2] at gr2
    have j03 := (Jst.same st s1).trans (j2.trans (Jst.same j2.2.1 s3))
    have gr3 := (gr_off j2 gt.pos gr).same s3
    have ru3 := Rdd.ex ((jr_st a).ex j03) _ ru
    have ru23 := Rdd.ex (Ex.same s3) _ ru2
    obtain ⟨dx, pR, pS, vN, hx, rvx, _⟩ := id gr3.ex
    obtain ⟨dy, qR, qS, vM, hy, rvy, _⟩ := id gr2.ex
    obtain ⟨b0, us, rfl, hsu, hxu, _⟩ := id ru3.tupd'
    obtain ⟨b2, us2, rfl, hsu2, hxu2, _⟩ := id ru23.tupd'
    have lu : us.length = ns.length := by rw [hxu.length, List.length_map]
    have big := gt.big
    have ⟨k1, k2⟩ := nds_tup gt.rng
    have ⟨kl1, kl2⟩ := nds_lst gt.rng
    -- the nodes
    refine ⟨_, rfl, x, dx, _, rfl, hx, x, ns, R, S, rfl, gr3, fun v1 rv1 => ?_⟩
    refine ⟨_, rfl, .tuple _, .tuple _, nds_tdp rv1, nds_tdp ru3, k1, k1, _, rfl, ?_⟩
    rw [k2]
    refine iteF ⟨_, rfl, y, dy, _, rfl, hy, y, ns, R2, S2, rfl, gr2, fun v2 rv2 => ?_⟩
    refine ⟨_, rfl, .tuple _, .tuple _, nds_tdp rv2, nds_tdp ru3, k1, k1, _, rfl, ?_⟩
    rw [k2]
    refine iteF ⟨_, rfl, b2, us2, rfl, .inr hsu2, fun l1 n1 => ?_⟩
    have t1 := Same.new (o := .lst us2) n1
    have hl1 : (upd H3 l1 (.lst us2)) l1 = some (.lst us2) := upd_same
    generalize upd H3 l1 (.lst us2) = H4 at t1 hl1 ⊢
    have kdlt : ∀ i, ∀ c ∈ kd ms i, c < ms.length := fun i c hc => by
      by_cases hi : i < ms.length
      · have hat := nAt_get hi
        rw [kd_at hat] at hc
        exact (gk_rng (gv.rng _ (List.mem_of_getElem? hat))).2 c hc
      · unfold kd at hc
        rw [List.getElem?_eq_none (by omega)] at hc
        cases hc
    refine ⟨.ref l1, ms, rfl, ⟨l1, us2, rfl, .inl hl1, RddAll.ex (Ex.same t1) _ hxu2⟩, gv.rng, Nat.le_trans gv.big (by decide), gv.pos, fun o3 fw3 => walk_closed gv.free fw3 (fw3.lt kdlt (fun i hi => by cases hi) fun i hi => by rw [List.mem_singleton.mp hi]; exact gv.pos), fun o3 p zs H5 cp t2 np hp rz => ?_⟩
    rw [bk o3 cp.fw] at rz
    refine ⟨p, zs, rfl, .inl (SqL.of hp), fun l2 n2 => ?_⟩
    have t3 := Same.new (o := .lst zs) n2
    have hl2 : (upd H5 l2 (.lst zs)) l2 = some (.lst zs) := upd_same
    generalize upd H5 l2 (.lst zs) = H6 at t3 hl2 ⊢
    have t36 := (t1.trans t2).trans t3
    refine ⟨_, rfl, b0, us, rfl, .inr ((Ex.same t36).tup hsu), fun l3 n3 => ?_⟩
    have t4 := Same.new (o := .lst us) n3
    have hl3 : (upd H6 l3 (.lst us)) l3 = some (.lst us) := upd_same
    generalize upd H6 l3 (.lst us) = H7 at t4 hl3 ⊢
    have t37 := t36.trans t4
    refine ⟨.list _, .list _, .lst (SqL.of (t4 _ _ hl2)) (nds_dp (RddAll.ex (Ex.same (t3.trans t4)) _ rz)), .lst (SqL.of hl3) (nds_dp (RddAll.ex (Ex.same t37) _ hxu)), kl1, kl1, _, rfl, ?_⟩
    rw [kl2]
    refine iteF ?_
    -- ==, !=, len
    have gx7 := gr3.same t37
    have gy7 := gr2.same t37
    have hx7 := t37 _ _ hx
    have hy7 := t37 _ _ hy
    refine ⟨_, rfl, _, rfl, x, dx, _, y, dy, _, rfl, rfl, hx7, hy7, x, .ref y, ns, R, S, rfl, gx7, gt.rng, .inl ⟨y, ns, R2, S2, rfl, gy7, gt.rng, _, rfl, ?_⟩⟩
    rw [decide_eq_true rfl]
    refine iteF ⟨_, rfl, _, rfl, x, dx, _, y, dy, _, rfl, rfl, hx7, hy7, x, .ref y, ns, R, S, rfl, gx7, gt.rng, .inl ⟨y, ns, R2, S2, rfl, gy7, gt.rng, _, rfl, _, rfl, ?_⟩⟩
    rw [decide_eq_true rfl]
    refine iteF ⟨_, rfl, y, dy, _, rfl, hy7, y, ns, R2, S2, rfl, gy7, ns.length, rfl, by omega, ?_⟩
    have hsu7 := (Ex.same t37).tup hsu
    have hxu7 := RddAll.ex (Ex.same t37) _ hxu
    refine ⟨_, rfl, b0, us, rfl, .inr hsu7, rfl, _, rfl, ?_⟩
    rw [lu, decide_eq_true rfl]
    refine iteF ?_
    -- the functions
    refine ⟨_, rfl, b0, us, rfl, hsu7, fun D0 nD => ?_⟩
    refine lcET (K := K) (xs := us) (fun i G => Same H7 G ∧ G D0 = some (.lst (iL ((List.range i).filter fun i => (nAt ns i).isF)))) ?_ ?_ ?_ ?_ ?_
    · exact ⟨jr_same.put (Same.refl _) nD, upd_same⟩
    · rintro i G ⟨sG, _⟩
      exact (Ex.same sG).tup hsu7
    · rintro i G T z ⟨sG, h1⟩ nT
      have sT := Same.new (o := .tup [V.int (i : Nat), z]) nT
      exact ⟨sG.trans sT, sT _ _ h1⟩
    · rintro i z T G hz ⟨sG, h1⟩ hT
      obtain ⟨d, hd, rz⟩ := hxu7.get hz
      rw [List.getElem?_map] at hd
      obtain ⟨g, hgi, rfl⟩ := Option.map_eq_some_iff.mp hd
      have hi := (List.getElem?_eq_some_iff.mp hgi).1
      have eg : nAt ns i = g := Option.some.inj ((nAt_get hi).symm.trans hgi)
      have rzG := Rdd.ex (Ex.same sG) _ rz
      have lf : ((List.range i).filter fun i => (nAt ns i).isF).length ≤ i := by
        have := List.length_filter_le (fun i => (nAt ns i).isF) (List.range i)
        rwa [List.length_range] at this
      have skip : g.isF = false → ((List.range (i + 1)).filter fun i => (nAt ns i).isF) = (List.range i).filter fun i => (nAt ns i).isF := fun e => by
        rw [List.range_succ, List.filter_append, List.filter_cons_of_neg (by rw [eg, e]; exact Bool.false_ne_true)]
        simp
      refine ⟨T, _, rfl, SqT.of hT, rfl, _, _, rfl, _, _, rfl, rfl, rfl, ?_⟩
      cases g with
      | W q cs =>
        obtain ⟨c0, qs, rfl, hc, hq, _⟩ := rzG.tupd'
        obtain ⟨x1, x2, x3, rfl, r1, r2, r3⟩ := hq.trip
        cases r1
        refine ⟨_, rfl, c0, _, (0 : Int), _, rfl, rfl, hc, atI_nat (j := 0) rfl, rfl, _, rfl, ?_⟩
        rw [str_dec, decide_eq_false (by decide +kernel)]
        refine iteF ⟨sG, ?_⟩
        rw [skip rfl]
        exact h1
      | F c =>
        obtain ⟨c0, qs, rfl, hc, hq, _⟩ := rzG.tupd'
        obtain ⟨x1, x2, rfl, r1, r2⟩ := hq.pair
        cases r1
        refine ⟨_, rfl, c0, _, (0 : Int), _, rfl, rfl, hc, atI_nat (j := 0) rfl, rfl, _, rfl, ?_⟩
        rw [str_dec, decide_eq_true rfl]
        refine iteT ⟨_, rfl, _, h1, by unfold iL; rw [List.length_map]; omega, jr_same.put sG nD, ?_⟩
        rw [List.range_succ, List.filter_append, List.filter_cons_of_pos (by rw [eg]; rfl)]
        unfold iL
        rw [List.map_append]
        exact upd_same
      | V f2 =>
        obtain ⟨c0, qs, rfl, hc, hq, _⟩ := rzG.tupd'
        obtain ⟨x1, x2, rfl, r1, r2⟩ := hq.pair
        cases r1
        refine ⟨_, rfl, c0, _, (0 : Int), _, rfl, rfl, hc, atI_nat (j := 0) rfl, rfl, _, rfl, ?_⟩
        rw [str_dec, decide_eq_false (by decide +kernel)]
        refine iteF ⟨sG, ?_⟩
        rw [skip rfl]
        exact h1
    rintro H8 ⟨t8, hD8⟩
    rw [lu] at hD8
    have hD8 : H8 D0 = some (.lst (iL (fnsG ns))) := hD8
    refine ⟨D0, _, rfl, .inl ⟨SqL.of hD8, fun pf npf => ?_⟩⟩
    have t9 := Same.new (o := .tup (iL (fnsG ns))) npf
    have hpf : (upd H8 pf (.tup (iL (fnsG ns)))) pf = some (.tup (iL (fnsG ns))) := upd_same
    generalize upd H8 pf (.tup (iL (fnsG ns))) = H9 at t9 hpf ⊢
    have t79 := t8.trans t9
    refine ⟨_, rfl, x, dx, _, rfl, t79 _ _ hx7, x, ns, R, S, rfl, gx7.same t79, by omega, fun pg H10 t10 npg hpg => ?_⟩
    have t7a := t79.trans t10
    refine ⟨_, rfl, tupP (fnsG ns), tupP (fnsG ns), .tup (SqT.of hpg) (ints_dp _), .tup (SqT.of (t10 _ _ hpf)) (ints_dp _), tup_shaped _, tup_shaped _, _, rfl, ?_⟩
    rw [tup_eqv, decide_eq_true rfl]
    refine iteF ?_
    -- single nodes
    have toL : ∀ {G : Hp} {σ : L2.St} {Q : VK}, Same H7 G → σ[1]? = some (some (V.ref b0)) → (∀ l G', Same G G' → Dp K G' (.ref l) (.list (ns.map ndP)) → Q (.ref l) G') → tCB (fun xs H Q => ∃ p ys, xs = [V.ref p] ∧ (SqL K H p ys ∨ SqT K H p ys) ∧ ∀ l, H l = none → Q (.ref l) (upd H l (.lst ys))) (tCons (tVar 1) tNil) σ G Q := fun {G σ Q} s7 e hq => by
      refine ⟨_, e, b0, us, rfl, .inr ((Ex.same s7).tup hsu7), fun l nl => ?_⟩
      have sl' := Same.new (o := .lst us) nl
      exact hq l _ sl' (.lst (SqL.of upd_same) (nds_dp (RddAll.ex (Ex.same (s7.trans sl')) _ hxu7)))
    refine ⟨_, rfl, b0, us, rfl, .inr ((Ex.same t7a).tup hsu7), ((us.length : Nat) : Int), rfl, by omega, by omega, fun D1 nD1 => ?_⟩
    refine lcJR (K := K) (J := Same) (lo := 0) (n := us.length) (Pd := fun i d => d = ndD (nAt ns i)) jr_same (Same.refl _) (by omega) nD1 ?_ ?_
    · intro i G Q8 Z8 hi s8 hQ
      rw [Int.zero_add]
      refine ⟨rfl, iteT (B := Z8 G) ⟨_, rfl, _, rfl, y, dy, _, rfl, (t7a.trans s8) _ _ hy7, y, i, ns, R2, S2, rfl, gy7.same (t7a.trans s8), by omega, fun v rv => hQ v G _ (Same.refl _) rv rfl⟩⟩
    intro H11 ys ds t11 hD11 ry ld pd
    have eds : ds = ns.map ndD := by
      refine List.ext_getElem? fun i => ?_
      by_cases h : i < ns.length
      · have hl : i < ds.length := by omega
        rw [List.getElem?_eq_getElem hl, pd i _ (List.getElem?_eq_getElem hl), List.getElem?_map, nAt_get h]
        rfl
      · rw [List.getElem?_eq_none (by omega), List.getElem?_eq_none (by rw [List.length_map]; omega)]
    subst eds
    have t7b := t7a.trans t11
    refine toL t7b rfl fun l4 H12 t12 d12 => ?_
    refine ⟨.list _, .list _, .lst (SqL.of (t12 _ _ hD11)) (nds_dp (RddAll.ex (Ex.same t12) _ ry)), d12, kl1, kl1, _, rfl, ?_⟩
    rw [kl2]
    refine iteF ?_
    have t7c := t7b.trans t12
    -- two by two
    have gyc := gy7.same t7c
    have hyc := t7c _ _ hy7
    refine ⟨_, rfl, _, rfl, .ref y, .ref y, rfl, .inr ⟨y, dy, _, rfl, hyc, gr_spIt gyc fun ta ua sa rua => .inr ⟨y, dy, _, rfl, hyc, gr_spIt gyc fun tb ub sb rub => ⟨ua, ub, sa, sb, by rw [rua.length, rub.length], fun H13 p1 ts1 z1 => ?_⟩⟩⟩⟩
    have t13 : Same H12 H13 := z1.1
    have t7d := t7c.trans t13
    have sbd := (Ex.same t7d).tup hsu7
    refine ⟨_, rfl, _, rfl, .ref b0, .ref b0, rfl, .inl ⟨b0, us, rfl, sbd, .inl ⟨b0, us, rfl, sbd, us, us, sbd, sbd, rfl, fun H14 p2 ts2 z2 => ?_⟩⟩⟩
    have t14 : Same H13 H14 := z2.1
    have t7e := t7d.trans t14
    have e1 : Dp K H14 (.ref p1) (.list (ns.map ndQ)) := zip_dp (Dpz z1 rua rub) t14
    have e2 : Dp K H14 (.ref p2) (.list (ns.map ndQ)) := zip_dp (Dpz z2 (RddAll.ex (Ex.same t7d) _ hxu7) (RddAll.ex (Ex.same t7d) _ hxu7)) (Same.refl _)
    have ⟨kq1, kq2⟩ := ndq_lst gt.rng
    refine ⟨_, _, e1, e2, kq1, kq1, _, rfl, ?_⟩
    rw [kq2]
    refine iteF ?_
    -- the nodes, one by one
    have ownL : ∀ {G : Hp} {Q : VK}, Same H7 G → (∀ l G', Same G G' → Dp K G' (.ref l) (.list (ns.map ndP)) → Q (.ref l) G') → tLc (iOwn K C (spGIter K C) E0 (tVar 4)) (gName 8) tYes (tVar 8) [8] [some (.ref a), some (.ref b0), some (.ref x), some (.ref b2), some (.ref y), some (.ref pf), none, none, none, none] G Q := fun {G Q} s7 hq => by
      refine ⟨_, rfl, y, dy, _, rfl, s7 _ _ hy7, gr_spIt (gy7.same s7) fun t uu su ru => fun D0 nD => ?_⟩
      refine lcT (uu.map some) (List.length_map ..) (by rw [ru.length, List.length_map]; omega) su nD ?_ ?_
      · intro i z G2 Q2 Z2 hz s2 hQ _
        exact ⟨rfl, iteT (B := Z2 G2) ⟨_, rfl, hQ z G2 (by rw [List.getElem?_map, hz]; rfl) (Same.refl _)⟩⟩
      · intro G2 s2 hD
        rw [List.filterMap_map, show (id ∘ some : V → Option V) = some from rfl, List.filterMap_some] at hD
        exact hq D0 G2 s2 (.lst (SqL.of hD) (nds_dp (RddAll.ex (Ex.same s2) _ ru)))
    unfold tTest tOp
    dsimp only
    refine ownL t7e fun l5 H15 t15 d15 => ?_
    refine toL (t7e.trans t15) (by rfl) fun l6 H16 t16 d16 => ?_
    have t7f := (t7e.trans t15).trans t16
    refine ⟨_, _, d15.same t16, d16, kl1, kl1, _, rfl, ?_⟩
    rw [kl2]
    refine iteF ?_
    -- two of them
    refine ⟨2, rfl, fun rg nrg => ?_⟩
    have t17 := Same.new (o := .rng 0 2) nrg
    have hrg : (upd H16 rg (.rng 0 2)) rg = some (.rng 0 2) := upd_same
    generalize upd H16 rg (.rng 0 2) = H17 at t17 hrg ⊢
    have t7g := t7f.trans t17
    refine ⟨_, rfl, rg, .ref y, 0, 2, rfl, hrg, ⟨by decide, by decide, by decide, by decide⟩, .inr ⟨y, dy, _, rfl, t7g _ _ hy7, gr_spIt (gy7.same t7g) fun t uu su ru => fun D2 nD2 => ?_⟩⟩
    have luu : uu.length = ns.length := by rw [ru.length, List.length_map]
    refine lc_it (walk_zipR (K := K) (lo := 0) (n := 2) (b := t) (ys := uu) (m := min 2 uu.length) rfl) (fun i G => Same H17 G ∧ G D2 = some (.lst (uu.take i))) ⟨jr_same.put (Same.refl _) nD2, upd_same⟩ (fun i G _ h => (Ex.same h.1).tup su) ?_ ?_
    · rintro i z G G' hi ⟨sG, hD⟩ ⟨T, z1, z2, rfl, nT, rfl, e1, e2⟩
      have sT := Same.new (o := .tup [z1, z2]) nT
      have hi2 := (List.getElem?_eq_some_iff.mp e2).1
      refine ⟨T, _, rfl, SqT.of upd_same, rfl, _, _, rfl, _, _, rfl, rfl, rfl, ?_⟩
      unfold tYes
      dsimp only
      rw [if_pos rfl]
      refine ⟨_, rfl, _, sT _ _ hD, by rw [List.length_take]; omega, jr_same.put (sG.trans sT) nD2, ?_⟩
      rw [upd_same, List.take_add_one, show uu[i]? = some z2 from e2]
      rfl
    rintro H18 ⟨t18, hD18⟩
    have t7h := t7g.trans t18
    have ru18 := RddAll.ex (Ex.same t18) _ ru
    have tk : uu.take (min 2 uu.length) = uu.take 2 := by
      rcases Nat.le_total 2 uu.length with h | h
      · rw [Nat.min_eq_left h]
      · rw [Nat.min_eq_right h, List.take_length, List.take_of_length_le h]
    rw [tk] at hD18
    have rtake : ∀ {G : Hp} {ws : List V}, RddAll K G ws (ns.map ndD) → DpAll K G (ws.take 2) ((ns.take 2).map ndP) := fun {G ws} h => by
      have : RddAll K G (ws.take 2) ((ns.take 2).map ndD) := by
        rw [List.map_take]
        exact RddAll.take' 2 h
      exact nds_dp this
    have rg2 : ∀ g ∈ ns.take 2, Rng ns.length g := fun g hg => gt.rng g (List.mem_of_mem_take hg)
    have ⟨m1, m2⟩ := nds_lst rg2
    have hsu18 := (Ex.same t7h).tup hsu7
    have hxu18 := RddAll.ex (Ex.same t7h) _ hxu7
    have rest : ∀ {G : Hp} (l : Addr), Same H18 G → Dp K G (.ref l) (.list ((ns.take 2).map ndP)) → ∀ (Q2 : VK), Q2 (.bl false) G → rNeD K (.ref D2) (.ref l) G Q2 := fun {G} l sG dl Q2 q2 => by
      refine ⟨.list _, .list _, .lst (SqL.of (sG _ _ hD18)) ((rtake (RddAll.ex (Ex.same sG) _ ru18))), dl, m1, m1, ?_⟩
      rw [m2]
      exact q2
    -- the end
    have e16 : ((us.length : Nat) : Int).natAbs.log2 < 1920 := by
      show us.length.log2 < 1920
      by_cases e : us.length = 0
      · rw [e]; decide
      · exact (Nat.log2_lt e).mpr (Nat.lt_of_le_of_lt (by omega : us.length ≤ 4000) (by decide +kernel))
    have lfn : (fnsG ns).length ≤ ns.length := by
      have := List.length_filter_le (fun i => (nAt ns i).isF) (List.range ns.length)
      rwa [List.length_range] at this
    have lil : (iL (fnsG ns)).length = (fnsG ns).length := List.length_map ..
    have e17 : (((iL (fnsG ns)).length : Nat) : Int).natAbs.log2 < 1920 := by
      rw [lil]
      show (fnsG ns).length.log2 < 1920
      by_cases e : (fnsG ns).length = 0
      · rw [e]; decide
      · exact (Nat.log2_lt e).mpr (Nat.lt_of_le_of_lt (by omega : (fnsG ns).length ≤ 4000) (by decide +kernel))
    have la : ∀ a b : Str, (a ++ b).length = a.length + b.length := fun a b => Str.length_append a b
    have w1 := txt_short (n := us.length) (by omega)
    have w2 := txt_short (n := (iL (fnsG ns)).length) (by omega)
    have w3 : (Str.ofString "graph of ").length ≤ 20 := by decide +kernel
    have w4 : (Str.ofString " nodes, ").length ≤ 20 := by decide +kernel
    have w5 : (Str.ofString " functions").length ≤ 20 := by decide +kernel
    have fin : ∀ {G : Hp}, Same H18 G → ∀ (l5 : Addr) (G2 : Hp), Same G G2 → Dp K G2 (.ref l5) (.list (ns.map ndP)) → Dp K G2 (.ref l5) (.list (ns.map ndP)) := fun _ _ _ _ h => h
    clear fin
    have whole : HT.sIx us.length 0 none = 0 ∧ HT.sIx us.length us.length (some (2 : Int)) = us.length → us.take 2 = us := fun h => by
      have h2 : HT.sIx us.length us.length (some ((2 : Nat) : Int)) = us.length := h.2
      rw [HT.sIx_nat] at h2
      exact List.take_of_length_le (by omega)
    have cutE : cutV us none (some (2 : Int)) = us.take 2 := by
      unfold cutV
      rw [HT.sIx_none, show HT.sIx us.length us.length (some (2 : Int)) = min 2 us.length from HT.sIx_nat us.length us.length 2, List.drop_zero, Nat.sub_zero]
      rcases Nat.le_total 2 us.length with h | h
      · rw [Nat.min_eq_left h]
      · rw [Nat.min_eq_right h, List.take_length, List.take_of_length_le h]
    have two : ∀ {G : Hp} {Q2 : VK} {tp : Addr}, Same H18 G → SqT K G tp (us.take 2) → (∀ G', Same H18 G' → Q2 (.bl false) G') → (fun x G0 => (fun xs H Q => ∃ p ys, xs = [V.ref p] ∧ (SqL K H p ys ∨ SqT K H p ys) ∧ ∀ l, H l = none → Q (.ref l) (upd H l (.lst ys))) [x] G0 fun y G2 => rNeD K (.ref D2) y G2 Q2) (.ref tp) G := fun {G Q2 tp} sG ht hq => by
      refine ⟨tp, _, rfl, .inr ht, fun l nl => ?_⟩
      have sl' := Same.new (o := .lst (us.take 2)) nl
      exact rest l (sG.trans sl') (.lst (SqL.of upd_same) (rtake (RddAll.ex (Ex.same (sG.trans sl')) _ hxu18))) _ (hq _ (sG.trans sl'))
    refine (fun (key : ∀ G', Same H18 G' → _) => ⟨_, rfl, 2, rfl, b0, us, rfl, hsu18, fun hw => two (Same.refl _) (by rw [whole hw]; exact hsu18) key, fun hw tp ntp => two (Same.new ntp) (SqT.of (by rw [upd_same, cutE])) key⟩) ?_
    intro H19 t19
    refine ⟨_, rfl, iteF ?_⟩
    have t7i := t7h.trans t19
    dsimp only
    refine ownL t7i fun l7 H20 t20 d20 => ?_
    refine toL (t7i.trans t20) rfl fun l8 H21 t21 d21 => ?_
    have t7j := (t7i.trans t20).trans t21
    refine ⟨_, _, d20.same t21, d21, kl1, kl1, _, rfl, ?_⟩
    rw [kl2]
    refine iteF ?_
    -- the text
    refine ⟨_, rfl, b0, us, rfl, .inr ((Ex.same t7j).tup hsu7), _, rfl, e16, _, _, rfl, rfl, by omega, _, _, rfl, rfl, by rw [la]; omega, ?_⟩
    refine ⟨_, rfl, x, dx, _, rfl, t7j _ _ hx7, x, ns, R, S, rfl, gx7.same t7j, by omega, fun H22 t22 => ⟨_, rfl, ?_⟩⟩
    have hpf22 := (t10.trans ((t11.trans t12).trans ((t13.trans t14).trans (t15.trans (t16.trans (t17.trans (t18.trans (t19.trans (t20.trans (t21.trans t22)))))))))) _ _ hpf
    refine ⟨_, rfl, _, rfl, pf, _, rfl, .inr (SqT.of hpf22), _, rfl, e17, _, _, rfl, rfl, by rw [la, la]; omega, _, _, rfl, rfl, by rw [la, la, la]; omega, rfl, ?_⟩
    rw [str_dec]
    have e : grTxt ns.length (fnsG ns).length = Str.ofString "graph of " ++ Str.ofString (toString ((us.length : Nat) : Int)) ++ Str.ofString " nodes, " ++ Str.ofString (toString (((iL (fnsG ns)).length : Nat) : Int)) ++ Str.ofString " functions" := by
      rw [lu, lil]
      rfl
    rw [decide_eq_true e]
    exact q _ (j03.trans (Jst.same j03.2.1 (t37.trans (t7j.trans t22))))
end
end Sl

set_option Elab.async false
set_option linter.all false
set_option maxRecDepth 100000
set_option maxHeartbeats 400000
/-! ## Graphs that are written down: facts by computation -/
namespace Sl
open PySem PySem.Spec PyProof.Rows L2
def fmB (ns : List GN) (X : List (List Nat)) (i f : Nat) : Bool := match nAt ns i with
  | .V g => decide (f = g)
  | .F c => decide (f ∈ rowAt X c) && decide (f ≠ i)
  | .W _ cs => cs.any fun c => decide (f ∈ rowAt X c)
theorem fmB_iff {ns : List GN} {X : List (List Nat)} {i f : Nat} : fmB ns X i f = true ↔ Fm ns X i f := by
  unfold fmB Fm
  cases nAt ns i with
  | V g => exact decide_eq_true_iff
  | F c =>
    show (decide (f ∈ rowAt X c) && decide (f ≠ i)) = true ↔ _
    rw [Bool.and_eq_true, decide_eq_true_iff, decide_eq_true_iff]
  | W x cs =>
    show (cs.any fun c => decide (f ∈ rowAt X c)) = true ↔ _
    rw [List.any_eq_true]
    exact ⟨fun ⟨c, h1, h2⟩ => ⟨c, h1, of_decide_eq_true h2⟩, fun ⟨c, h1, h2⟩ => ⟨c, h1, decide_eq_true h2⟩⟩
def nxtR (ns : List GN) (X : List (List Nat)) (i : Nat) : List Nat := (List.range ns.length).filter fun f => fmB ns X i f
def swpN (ns : List GN) : Nat → List (List Nat) → List (List Nat)
  | 0, X => X
  | i + 1, X => (swpN ns i X).set i (nxtR ns (swpN ns i X) i)
def rounds (ns : List GN) : Nat → List (List Nat)
  | 0 => ns.map fun _ => []
  | k + 1 => swpN ns ns.length (rounds ns k)
theorem nxtR_iff {ns : List GN} {X0 X : List (List Nat)} {j i : Nat} (ow : Own ns) (h : Swp ns X0 X j) (hi : i < ns.length) (f : Nat) : f ∈ nxtR ns X i ↔ Fm ns X i f := by
  unfold nxtR
  rw [List.mem_filter, fmB_iff, List.mem_range]
  refine ⟨fun z => z.2, fun z => ⟨?_, z⟩⟩
  have inRow : ∀ c, f ∈ rowAt X c → f < ns.length := fun c hc => by
    have hl : c < ns.length := by
      by_cases q : c < ns.length
      · exact q
      · rw [rowAt_over (by rw [h.len]; omega)] at hc
        cases hc
    obtain ⟨v, hv, _⟩ := h.snd c f hl hc
    obtain ⟨b, hb⟩ := ow v f hv
    exact (List.getElem?_eq_some_iff.mp hb).1
  have hat := nAt_get hi
  unfold Fm at z
  split at z
  · rename_i g e
    rw [e] at hat
    obtain ⟨b, hb⟩ := ow i g hat
    rw [z]
    exact (List.getElem?_eq_some_iff.mp hb).1
  · exact inRow _ z.1
  · obtain ⟨c, _, hc⟩ := z
    exact inRow c hc
theorem swpN_ok {ns : List GN} {X : List (List Nat)} (ow : Own ns) (h : Swp ns X X 0) : ∀ i, i ≤ ns.length → Swp ns X (swpN ns i X) i
  | 0, _ => h
  | i + 1, hi => by
    have ih := swpN_ok ow h i (by omega)
    exact ih.step ow (by omega) (List.pairwise_lt_range.filter _) (nxtR_iff ow ih (by omega))
theorem rounds_ok {ns : List GN} (ow : Own ns) : ∀ k, Swp ns (rounds ns k) (rounds ns k) 0
  | 0 => swp_nil ns
  | k + 1 => (swpN_ok ow (rounds_ok ow k) ns.length (Nat.le_refl _)).start
theorem rows_done {ns : List GN} (ow : Own ns) (k : Nat) (h : rounds ns (k + 1) = rounds ns k) : RowsOk ns (rounds ns k) := by
  have s := swpN_ok ow (rounds_ok ow k) ns.length (Nat.le_refl _)
  have e : swpN ns ns.length (rounds ns k) = rounds ns k := h
  rw [e] at s
  refine ⟨s.len, fun i r hr => ?_⟩
  rw [← rowAt_get hr]
  refine s.fin i ?_
  rw [← s.len]
  exact (List.getElem?_eq_some_iff.mp hr).1
theorem own_ar {ns : List GN} (h : arB ns = true) : Own ns := fun v f hv => by
  unfold arB at h
  rw [Bool.and_eq_true] at h
  have := List.all_eq_true.mp h.1 _ (List.mem_of_getElem? hv)
  have e : (match ns[f]? with | some g => g.isF | none => false) = true := this
  cases hf : ns[f]? with
  | none => rw [hf] at e; cases e
  | some g =>
    rw [hf] at e
    cases g with
    | F c => exact ⟨c, rfl⟩
    | W x cs => cases e
    | V z => cases e
/-- a first walk, computed -/
def wkF (k : Nat → List Nat) : Nat → List Nat → List Nat → Option (List Nat)
  | 0, _, _ => none
  | _ + 1, m, [] => some m
  | n + 1, m, s :: st => if decide (s ∈ m) = true then wkF k n m st else wkF k n (m ++ [s]) (k s ++ st)
theorem wkF_ok {k : Nat → List Nat} : ∀ {n : Nat} {m st o : List Nat}, wkF k n m st = some o → FW k m st o
  | 0, _, _, _, h => by cases h
  | n + 1, m, [], o, h => by
    have : m = o := Option.some.inj h
    subst this
    exact .nil
  | n + 1, m, s :: st, o, h => by
    have h' : (if decide (s ∈ m) = true then wkF k n m st else wkF k n (m ++ [s]) (k s ++ st)) = some o := h
    by_cases e : s ∈ m
    · rw [if_pos (decide_eq_true e)] at h'
      exact .old e (wkF_ok h')
    · rw [if_neg (fun z => e (of_decide_eq_true z))] at h'
      exact .new e (wkF_ok h')
def rngB (n : Nat) : GN → Bool
  | .W x cs => nmOk x && decide (cs.length ≤ 3) && cs.all fun c => decide (c < n)
  | .F c => decide (c < n)
  | .V f => decide (f < n)
def gvB (ns : List GN) (k : Nat) : Bool := decide (0 < ns.length) && decide (ns.length ≤ 100) && ns.all (rngB ns.length) && arB ns && decide (rounds ns (k + 1) = rounds ns k) && decide ((rounds ns k)[0]? = some [])
theorem rngB_ok {n : Nat} {g : GN} (h : rngB n g = true) : Rng n g := by
  cases g with
  | W x cs =>
    have h : (nmOk x && decide (cs.length ≤ 3) && cs.all fun c => decide (c < n)) = true := h
    rw [Bool.and_eq_true, Bool.and_eq_true, decide_eq_true_iff, List.all_eq_true] at h
    exact ⟨h.1.1, h.1.2, fun c hc => of_decide_eq_true (h.2 c hc)⟩
  | F c =>
    show c < n
    exact of_decide_eq_true h
  | V f =>
    show f < n
    exact of_decide_eq_true h
theorem gv_of {ns : List GN} {k : Nat} (h : gvB ns k = true) : GV ns := by
  unfold gvB at h
  simp only [Bool.and_eq_true, decide_eq_true_iff, List.all_eq_true] at h
  obtain ⟨⟨⟨⟨⟨h1, h2⟩, h3⟩, h4⟩, h5⟩, h6⟩ := h
  have ow := own_ar h4
  have ok := rows_done ow k h5
  exact ⟨h1, h2, fun g hg => rngB_ok (h3 g hg), h4, (free_row (ok.row 0 [] h6)).mp rfl⟩
theorem ren_selfR {ns : List GN} (rng : ∀ g ∈ ns, Rng ns.length g) : ren ns (List.range ns.length) = ns := by
  unfold ren
  refine List.ext_getElem? fun i => ?_
  rw [List.getElem?_map]
  by_cases h : i < ns.length
  · rw [List.getElem?_range h, nAt_get h]
    show some (rl _ _) = _
    rw [rl_id fun j hj => idx_of List.nodup_range (List.getElem?_range ((nums_rng (rng _ (List.mem_of_getElem? (nAt_get h)))).2 j hj))]
  · rw [List.getElem?_eq_none (by rw [List.length_range]; omega), List.getElem?_eq_none (by omega)]
    rfl
theorem gtB {ns : List GN} {k m : Nat} (h : gvB ns k = true) (hb : ns.length ≤ 45) (hw : wkF (kd ns) m [] [0] = some (List.range ns.length)) : GT ns := by
  have gv := gv_of h
  have fw := wkF_ok hw
  have wo := ren_woA (ns := ns) (r := 0) gv.free fw List.nodup_range fun i hi => List.mem_range.mp hi
  rw [ren_selfR gv.rng] at wo
  exact ⟨gv.pos, hb, gv.rng, own_ar gv.ar, gv.own, wo, fw⟩
end Sl

set_option Elab.async false
set_option linter.all false
set_option maxRecDepth 100000
set_option maxHeartbeats 400000
/-! ## Written tuples, graphs made of written nodes -/
namespace Sl
open PySem PySem.Spec PyProof.Rows L2
theorem ts_gv {K : PySem.W.Frag} {σ : L2.St} {i : Nat} {te : TE} {d : D} {H : Hp} {rest : TS} {D0 : Ends} (h : Gv K σ H te d) (q : ∀ v H', Same H H' → Rdd K H' v d → rest D0 (σ.set i (some v)) H') : tSeq (tAsg te (gName i)) rest D0 σ H := by
  show te σ H fun x H1 => rest D0 (σ.set i (some x)) H1
  exact h H _ (Same.refl H) fun v H' s r => q v H' s r
section
variable {K : PySem.W.Frag} {σ : L2.St} {G : Hp}
theorem g0 : Gv K σ G (tTup tNil) (.tup []) := gv_tup gva_nil (Nat.le_of_ble_eq_true rfl)
theorem g11 {i : Int} : Gv K σ G (tTup (tCons (tC (.int i)) tNil)) (.tup [.int i]) := gv_tup (gva_cons (gv_int _) gva_nil) (Nat.le_of_ble_eq_true rfl)
theorem g12 {i j : Int} : Gv K σ G (tTup (tCons (tC (.int i)) (tCons (tC (.int j)) tNil))) (.tup [.int i, .int j]) := gv_tup (gva_cons (gv_int _) (gva_cons (gv_int _) gva_nil)) (Nat.le_of_ble_eq_true rfl)
theorem g13 {i j k : Int} : Gv K σ G (tTup (tCons (tC (.int i)) (tCons (tC (.int j)) (tCons (tC (.int k)) tNil)))) (.tup [.int i, .int j, .int k]) := gv_tup (gva_cons (gv_int _) (gva_cons (gv_int _) (gva_cons (gv_int _) gva_nil))) (Nat.le_of_ble_eq_true rfl)
theorem gWd {x : Str} {ta : TA} {l : List D} (h : Gva K σ G ta l) (hl : l.length ≤ 100000) : Gv K σ G (tTup (tCons (tC (.str "word")) (tCons (tC (.str x)) (tCons (tTup ta) tNil)))) (.tup [.str "word", .str x, .tup l]) := gv_tup (gva_cons (gv_str _) (gva_cons (gv_str _) (gva_cons (gv_tup h hl) gva_nil))) (by show 3 ≤ 100000; decide)
end
theorem ts_make {K : PySem.W.Frag} {σ : L2.St} {i : Nat} {ta : TA} {ns : List GN} {C : Addr} {E : XK} {H : Hp} {rest : TS} {D0 : Ends} (h : Gva K σ H ta (ns.map ndD)) (gv : GV ns) (q : ∀ o R S x H', FW (kd ns) [] [0] o → Same H H' → GrAt K C H' x (ren ns o) R S → rest D0 (σ.set i (some (.ref x))) H') : tSeq (tAsg (StX.tMakeR C (spGMake K C) E ta) (gName i)) rest D0 σ H := by
  show ta σ H fun vs H1 => ∀ x dx, H1 x = Option.none → H1 dx = Option.none → dx ≠ x → spGMake K C (V.ref x :: vs) (upd (upd H1 dx (.own x)) x (.ins C dx [])) (fun v H2 => v = .non ∧ rest D0 (σ.set i (some (.ref x))) H2) E
  exact h H _ (Same.refl H) fun vs H3 s3 rvs x dx nx ndx ne => g_make (Q := fun v H2 => rest D0 (σ.set i (some v)) H2) gv nx ndx ne rvs fun o R S H4 fw nd lt s4 gr => q o R S x H4 fw (s3.trans s4) gr
section
variable {K : PySem.W.Frag} {σ : L2.St} {G : Hp}
theorem gFn {c : Int} : Gv K σ G (tTup (tCons (tC (.str "fun")) (tCons (tC (.int c)) tNil))) (.tup [.str "fun", .int c]) := gv_tup (gva_cons (gv_str _) (gva_cons (gv_int _) gva_nil)) (Nat.le_of_ble_eq_true rfl)
theorem gVr {c : Int} : Gv K σ G (tTup (tCons (tC (.str "var")) (tCons (tC (.int c)) tNil))) (.tup [.str "var", .int c]) := gv_tup (gva_cons (gv_str _) (gva_cons (gv_int _) gva_nil)) (Nat.le_of_ble_eq_true rfl)
theorem gW0 {x : Str} : Gv K σ G (tTup (tCons (tC (.str "word")) (tCons (tC (.str x)) (tCons (tTup tNil) tNil)))) (.tup [.str "word", .str x, .tup []]) := gWd gva_nil (Nat.le_of_ble_eq_true rfl)
theorem gW1 {x : Str} {a : Int} : Gv K σ G (tTup (tCons (tC (.str "word")) (tCons (tC (.str x)) (tCons (tTup (tCons (tC (.int a)) tNil)) tNil)))) (.tup [.str "word", .str x, .tup [.int a]]) := gWd (gva_cons (gv_int _) gva_nil) (Nat.le_of_ble_eq_true rfl)
theorem gW2 {x : Str} {a b : Int} : Gv K σ G (tTup (tCons (tC (.str "word")) (tCons (tC (.str x)) (tCons (tTup (tCons (tC (.int a)) (tCons (tC (.int b)) tNil))) tNil)))) (.tup [.str "word", .str x, .tup [.int a, .int b]]) := gWd (gva_cons (gv_int _) (gva_cons (gv_int _) gva_nil)) (Nat.le_of_ble_eq_true rfl)
theorem gW3 {x : Str} {a b c : Int} : Gv K σ G (tTup (tCons (tC (.str "word")) (tCons (tC (.str x)) (tCons (tTup (tCons (tC (.int a)) (tCons (tC (.int b)) (tCons (tC (.int c)) tNil)))) tNil)))) (.tup [.str "word", .str x, .tup [.int a, .int b, .int c]]) := gWd (gva_cons (gv_int _) (gva_cons (gv_int _) (gva_cons (gv_int _) gva_nil))) (Nat.le_of_ble_eq_true rfl)
end
end Sl

set_option Elab.async false
set_option linter.all false
set_option maxRecDepth 100000
set_option maxHeartbeats 400000
/-! ## law -/
namespace Sl
open PySem PySem.Spec PyProof.Rows L2
--HL
abbrev sLaw8 : Stmt := topT 54
theorem scLaw8 : FnScope ["_law_script", "_law_at", "_law_stream_here", "_law_before", "_law_turn", "_law_nodes_here", "_law_far", "_law_due", "_law_one", "_law_value"] ["_law_script"] (defScope sLaw8) := ⟨rfl, rfl, rfl, by decide +kernel, rfl, by decide +kernel, by decide +kernel⟩
--hL
def ns8 : List GN := [.F 5, .W "k" [], .V 0, .F 4, .W "at" [2, 3], .F 3]
def ns8b : List GN := [.F 1, .F 2, .F 3, .W "at" [4, 2], .V 0]
def ns8c : List GN := [.W "three" [0, 1, 0], .W "k" []]
def nsK : List GN := [.W "k" []]
theorem ns8_gv : GV ns8 := gv_of (k := 8) (by decide +kernel)
theorem ns8b_gt : GT ns8b := gtB (k := 8) (m := 40) (by decide +kernel) (by decide) (by decide +kernel)
theorem ns8c_gt : GT ns8c := gtB (k := 4) (m := 20) (by decide +kernel) (by decide) (by decide +kernel)
theorem nsK_gt : GT nsK := gtB (k := 4) (m := 20) (by decide +kernel) (by decide) (by decide +kernel)
theorem ns8_ren {o : List Nat} (fw : FW (kd ns8) [] [0] o) : ren ns8 o = ns8b := by
  have e : FW (kd ns8) [] [0] [0, 5, 3, 4, 2] := wkF_ok (n := 40) (by decide +kernel)
  rw [fw.det e]
  decide +kernel
theorem nsK_len : nsK.length = 1 := rfl
section
variable {P : Program} {w : World} {K : PySem.W.Frag} {mg : Str → Option Value} {base : Heap} {C : Addr} {fLa : Addr} {dLa : FuncData}
def spLaw (K : PySem.W.Frag) : Sp := fun vs H Q _ => ∃ (a : Addr) (ns : List Int), vs = [.ref a] ∧ SqL K H a (ns.map V.int) ∧ ns.length ≤ 100000 ∧ ∀ H', Q (.bl true) H'
theorem ok_law (FLa : Fun K "law" "law" sLaw8 fLa dLa) (B : Bt mg) (L : Gr K mg C) (Ic : C8.InsC K C) (kt : ∀ t ∈ ["NoneType", "tuple", "list", "int", "str"], PySem.W.kitOne K (.type t) (.ref C) = some false) (nf : ∀ t ∈ ["NoneType", "tuple", "list", "int", "str"], PySem.W.notFirst K C (.type t) = true)
    (UNo : Up P w K mg base C "nodes" 1 (spGNodes K C)) (UFu : Up P w K mg base C "functions" 1 (spGFuns K C)) (UEq : Um P w K mg base C "__eq__" ["self", "other"] 1 (spGEqT K C)) (USt : Um P w K mg base C "__str__" ["self"] 3 (spGStr K C)) (UOf : Uc P w K mg base C "Graph" "of" 8 (spGOf K C))
    (UMk : Ui P w K mg base C "Graph" 6 (spGMake K C)) (USr : Uf P w K mg base "_law_stream" ["_law_script", "_law_at"] 1 (spStream K)) (ULn : Uf P w K mg base "_law_nodes" ["_law_stream_here"] 19 (spNodes K)) (UMr : Uf P w K mg base "_law_made_right" ["_law_stream_here", "_law_nodes_here"] 9 (spLMade K C)) :
    FnG P w K mg base (L2.CX P w) 20 fLa dLa ["_law_script"] (spLaw K) := by
  refine okG FLa scLaw8 (fun vs H Q E h => ?_) (fun cdv A outer s H vs Q E hG0 hr h => ?_)
  · obtain ⟨a, _, rfl, _⟩ := h
    rfl
  · obtain ⟨a, ns, rfl, hs, hz, q⟩ := h
    --SL
    have h1 := hr.mono (by decide : 1 ≤ 19)
    have h2 := hr.mono (by decide : 2 ≤ 19)
    have h5 := hr.mono (by decide : 5 ≤ 19)
    have h7 := hr.mono (by decide : 7 ≤ 19)
    have h8 := hr.mono (by decide : 8 ≤ 19)
    have h9 := hr.mono (by decide : 9 ≤ 19)
    have h19 := hr.mono (by decide : 19 ≤ 19)
    --sL
    have sl := sizeLine_eq
    --DL
    refine ⟨_, (PSs.nox (pss_cons (ps_for PassesOwn.never rfl (pi_range1 (by rfl) B.range (pa_cons (pe_callB (call_max2 rfl) (by rfl) B.max (by decide +kernel) (pa_cons pe_int (pa_cons (pe_callB (call_min2 rfl) (by rfl) B.min (by decide +kernel) (pa_cons pe_int (pa_cons (pe_callB call_len_seq (by rfl) B.len PySem.boot_len (pa_cons (pv 0) pa_nil)) pa_nil))) pa_nil))) pa_nil)) (pg_name (i := 1) scLaw8.nd rfl (Or.inl rfl))
          (pss_cons (ps_par (i := 2) (j := 3) (by rfl) scLaw8.nd rfl rfl (by decide) rfl rfl (pa_cons (pe_call USr.G h1 (by rfl) USr.g USr.kp USr.b .nil pass0 (pa_cons (pv 0) (pa_cons (pv 1) pa_nil))) (pa_cons (pe_tup (pa_cons (pe_tup (pa_cons pe_str (pa_cons pe_str (pa_cons (pe_tup pa_nil) pa_nil)))) pa_nil)) pa_nil)) (by rfl))
        (pss_one (ps_for PassesOwn.never rfl (pi_range1 (by rfl) B.range (pa_cons pe_int pa_nil)) (pg_name (i := 4) scLaw8.nd rfl (Or.inl rfl))
          (pss_cons (ps_set (i := 5) scLaw8.nd rfl (Or.inr rfl) (pe_call ULn.G h19 (by rfl) ULn.g ULn.kp ULn.b .nil pass0 (pa_cons (pv 2) pa_nil)))
        (pss_cons (ps_if (pt_not (pt_val (pe_call UMr.G h9 (by rfl) UMr.g UMr.kp UMr.b .nil pass0 (pa_cons (pv 2) (pa_cons (pv 5) pa_nil)))))
          (pss_one (ps_ret pe_bl)) pss_nil)
        (pss_cons (ps_if (pt_cmpR op_ne (pe_cmpR (op_eqOwn UEq.M.at_ UEq.M.fn UEq.R h1 pass0) (ClX.pe_cmeth (pe_glob (v := .ref C) (by rfl) UOf.g rfl) UOf.rd UOf.cm UOf.G h8 pass0 (pa_cons (pv 5) pa_nil)) (ClX.pe_cmeth (pe_glob (v := .ref C) (by rfl) UOf.g rfl) UOf.rd UOf.cm UOf.G h8 pass0 (pa_cons (pv 3) pa_nil)) (nomark _)) (pe_cmpR (op_eqD hr.units) (pv 5) (pv 3) (nomark _)) (nomark _))
          (pss_one (ps_ret pe_bl)) pss_nil)
        (pss_cons (ps_if (pt_cmpR (op_neD hr.units) (pe_lc (own := [("_law_value", 9)]) (g := gName 9) (tt := tTest (tOp (rEqOwnT K C (spGEqT K C) E0) (ClX.tCMeth C (spGOf K C) E0 (tC (.ref C)) (tCons (tVar 5) tNil)) (tVar 9))) (te := tC (.int 1)) rfl scLaw8.nd (pi_tup (pe_tup (pa_cons pe_non (pa_cons (pv 5) (pa_cons (pe_callTy call_list_of (by rfl) B.list (by decide +kernel) (pa_cons (pv 5) pa_nil)) (pa_cons pe_int (pa_cons pe_str (pa_cons (pe_tup pa_nil) pa_nil)))))))) (blkOk_by (own := [("_law_value", 9)]) (N := ["_law_script", "_law_at", "_law_stream_here", "_law_before", "_law_turn", "_law_nodes_here", "_law_far", "_law_due", "_law_one", "_law_value"]) (sc := defScope sLaw8) (by decide +kernel)) (fun _ _ _ _ _ => pg_name (i := 9) scLaw8.nd rfl (Or.inl rfl)) (fun _ _ _ _ _ => pts_one (by exact (pt_cmpR (op_eqOwnT UEq.M.at_ UEq.M.fn UEq.R h1 pass0) (ClX.pe_cmeth (pe_glob (v := .ref C) (by rfl) UOf.g rfl) UOf.rd UOf.cm UOf.G h8 pass0 (pa_cons (pv 5) pa_nil)) (pv 9) (nomark _)))) (fun _ _ _ _ _ => by exact pe_int)) (pe_lst pa_nil) (nomark _))
          (pss_one (ps_ret pe_bl)) pss_nil)
        (pss_one (ps_set (i := 3) scLaw8.nd rfl (Or.inl rfl) (pv 5)))))))))))
        (pss_cons (ps_set (i := 6) scLaw8.nd rfl (Or.inl rfl) (StX.pe_makeR UMk.M UMk.G h7 (by rfl) UMk.g pass0 (pa_cons (pe_tup (pa_cons pe_str (pa_cons pe_int pa_nil))) (pa_cons (pe_tup (pa_cons pe_str (pa_cons pe_str (pa_cons (pe_tup pa_nil) pa_nil)))) (pa_cons (pe_tup (pa_cons pe_str (pa_cons pe_int pa_nil))) (pa_cons (pe_tup (pa_cons pe_str (pa_cons pe_int pa_nil))) (pa_cons (pe_tup (pa_cons pe_str (pa_cons pe_str (pa_cons (pe_tup (pa_cons pe_int (pa_cons pe_int pa_nil))) pa_nil)))) (pa_cons (pe_tup (pa_cons pe_str (pa_cons pe_int pa_nil))) pa_nil))))))))
        (pss_cons (ps_set (i := 7) scLaw8.nd rfl (Or.inl rfl) (pe_tup (pa_cons (pe_tup (pa_cons pe_str (pa_cons pe_int pa_nil))) (pa_cons (pe_tup (pa_cons pe_str (pa_cons pe_int pa_nil))) (pa_cons (pe_tup (pa_cons pe_str (pa_cons pe_int pa_nil))) (pa_cons (pe_tup (pa_cons pe_str (pa_cons pe_str (pa_cons (pe_tup (pa_cons pe_int (pa_cons pe_int pa_nil))) pa_nil)))) (pa_cons (pe_tup (pa_cons pe_str (pa_cons pe_int pa_nil))) pa_nil)))))))
        (pss_cons (ps_set (i := 8) scLaw8.nd rfl (Or.inl rfl) (StX.pe_makeR UMk.M UMk.G h7 (by rfl) UMk.g pass0 (pa_cons (pe_tup (pa_cons pe_str (pa_cons pe_str (pa_cons (pe_tup (pa_cons pe_int (pa_cons pe_int (pa_cons pe_int pa_nil)))) pa_nil)))) (pa_cons (pe_tup (pa_cons pe_str (pa_cons pe_str (pa_cons (pe_tup pa_nil) pa_nil)))) pa_nil))))
        (pss_one (ps_ret (pe_and (pe_cmpR (op_eqD hr.units) (pe_prop (pv 6) L.cl UNo.M UNo.G h2 UNo.b .nil pass0 rfl) (pv 7) (nomark _)) (pe_and (pe_cmpR (op_eqD hr.units) (pe_prop (pv 6) L.cl UFu.M UFu.G h2 UFu.b .nil pass0 rfl) (pe_tup (pa_cons pe_int (pa_cons pe_int (pa_cons pe_int pa_nil)))) (nomark _)) (pe_one (pe_cmpR op_eq (pe_callTy (call_strOwn USt.M.at_ USt.M.fn USt.R h5 pass0) (by rfl) B.str (by decide +kernel) (pa_cons (pv 8) pa_nil)) pe_str (nomark _)))))))))))), ?_⟩
    --EL
    refine ⟨.ref a, rfl, a, _, rfl, .inl hs, 6, _, rfl, 1, _, rfl, _, rfl, ?_⟩
    generalize ((List.map V.int ns).length : Int) = LL
    generalize hR : (if (if LL < 6 then LL else 6) > 1 then (if LL < 6 then LL else 6) else (1 : Int)) = RR
    have hR1 : 1 ≤ RR ∧ RR ≤ 6 := by
      rw [← hR]
      repeat' split
      all_goals omega
    refine ⟨by omega, by omega, for_range (n := RR.toNat) (fun i σ' H' => ∃ y1 y2 y3 y4 y5, σ' = [some (.ref a), y1, y2, y3, y4, y5, none, none, none, none] ∧ Same H H') ⟨none, none, none, none, none, rfl, Same.refl _⟩ ?_ ?_⟩
    · rintro i σ' H1 hi ⟨y1, y2, y3, y4, y5, rfl, s1⟩
      refine ⟨.ref a, rfl, .int (0 + (i : Int)), rfl, a, ns, i, by rw [Int.zero_add]; rfl, ?_, fun p H2 np s2 st2 => ?_⟩
      · rcases hs with (h | ⟨ob, h⟩) | h
        · exact .inl (.inl (s1 _ _ h))
        · exact .inl (.inr ⟨ob, s1 _ _ h⟩)
        · exact .inr h
      refine (gv_tup (gva_cons gW0 gva_nil) (Nat.le_of_ble_eq_true rfl) : Gv K _ _ _ _) _ _ (Same.refl _) fun vb H3 s3 rb => ⟨_, _, rfl, ?_⟩
      refine ⟨3, rfl, by decide, by decide, for_range (n := 3) (fun j σ' H' => ∃ y4 y5 vb bs, σ' = [some (.ref a), some (.int (0 + (i : Int))), some (.ref p), some vb, y4, y5, none, none, none, none] ∧ Jst p H2 H' ∧ Rdd K H' vb (.tup (bs.map ndD)) ∧ GT bs) ⟨_, _, vb, nsK, rfl, Jst.same st2 s3, rb, nsK_gt⟩ ?_ ?_⟩
      · rintro j σ' H4 hj ⟨y4, y5, vb, bs, rfl, j4, rb, gtb⟩
        refine ⟨.ref p, rfl, p, rfl, j4.2.1, fun gs u H5 gtg j5 ru => ?_⟩
        refine ⟨_, rfl, _, rfl, p, u, gs, rfl, j5.2.1, ru, gtg, fun H6 j6 => ⟨true, rfl, iteF ?_⟩⟩
        have ru6 := Rdd.ex ((jr_st p).ex j6) _ ru
        have rb6 := Rdd.ex ((jr_st p).ex (j5.trans j6)) _ rb
        have j06 := (j4.trans j5).trans j6
        -- == of two graphs
        refine ⟨rfl, _, rfl, u, gs, rfl, ru6, gt_gv gtg, fun o R S x H7 fw nd lt s7 gr => ?_⟩
        rw [gt_ren gtg fw] at gr
        refine ⟨rfl, _, rfl, vb, bs, rfl, Rdd.ex (Ex.same s7) _ rb6, gt_gv gtb, fun o2 R2 S2 y H8 fw2 nd2 lt2 s8 gr2 => ?_⟩
        rw [gt_ren gtb fw2] at gr2
        have gr8 := gr.same s8
        obtain ⟨dx, pR, pS, vN, hx, _⟩ := id gr8.ex
        obtain ⟨dy, qR, qS, vM, hy, _⟩ := id gr2.ex
        have s78 := s7.trans s8
        have ru8 := Rdd.ex (Ex.same s78) _ ru6
        have rb8 := Rdd.ex (Ex.same s78) _ rb6
        refine ⟨x, dx, _, y, dy, _, rfl, rfl, hx, hy, x, .ref y, gs, R, S, rfl, gr8, gtg.rng, .inl ⟨y, bs, R2, S2, rfl, gr2, gtb.rng, ?_⟩⟩
        refine ⟨_, rfl, _, rfl, .tuple _, .tuple _, nds_tdp ru8, nds_tdp rb8, (nds_tup gtg.rng).1, (nds_tup gtb.rng).1, ?_⟩
        rw [nds_teqv]
        refine ⟨rfl, _, rfl, ?_⟩
        rw [decide_eq_true (rfl : V.bl (decide (gs = bs)) = _)]
        refine iteF ?_
        -- nothing else is equal
        obtain ⟨b0, us, rfl, hsu, hxu, _⟩ := id ru8.tupd'
        refine ⟨_, rfl, _, rfl, b0, us, rfl, .inr hsu, fun l1 n1 => ?_⟩
        have t1 := Same.new (o := .lst us) n1
        have hl1 : (upd H8 l1 (.lst us)) l1 = some (.lst us) := upd_same
        generalize upd H8 l1 (.lst us) = H9 at t1 hl1 ⊢
        refine ⟨(by show 0 ≤ sizeLine; omega), fun t0 nt0 => ?_⟩
        have t2 := Same.new (o := .tup []) nt0
        have ht0 : (upd H9 t0 (.tup [])) t0 = some (.tup []) := upd_same
        generalize upd H9 t0 (.tup []) = H10 at t2 ht0 ⊢
        refine ⟨(by show 6 ≤ sizeLine; omega), fun T nT => ?_⟩
        have t3 := Same.new (o := .tup [V.non, .ref b0, .ref l1, .int 5, .str "graph", .ref t0]) nT
        have hT : (upd H10 T (.tup [V.non, .ref b0, .ref l1, .int 5, .str "graph", .ref t0])) T = some (.tup [V.non, .ref b0, .ref l1, .int 5, .str "graph", .ref t0]) := upd_same
        generalize upd H10 T (.tup [V.non, .ref b0, .ref l1, .int 5, .str "graph", .ref t0]) = H11 at t3 hT ⊢
        have t13 := (t1.trans t2).trans t3
        have ru11 := Rdd.ex (Ex.same t13) _ ru8
        have tys : ∀ (k : Nat) (z : V), [V.non, .ref b0, .ref l1, .int 5, .str "graph", .ref t0][k]? = some z → ∃ t ∈ ["NoneType", "tuple", "list", "int", "str"], TyX K H11 z (.type t) := fun k z hk => by
          match k, hk with
          | 0, hk => cases hk; exact ⟨"NoneType", by simp, .base .non⟩
          | 1, hk => cases hk; exact ⟨"tuple", by simp, sqT_ty ((Ex.same t13).tup hsu)⟩
          | 2, hk => cases hk; exact ⟨"list", by simp, .base (.lst ((t2.trans t3) _ _ hl1))⟩
          | 3, hk => cases hk; exact ⟨"int", by simp, .base (.int 5)⟩
          | 4, hk => cases hk; exact ⟨"str", by simp, .base (.str _)⟩
          | 5, hk => cases hk; exact ⟨"tuple", by simp, sqT_ty (SqT.of (t3 _ _ ht0))⟩
          | k + 6, hk => simp at hk
        refine ⟨T, rfl, ⟨_, SqT.of hT⟩, fun D0 nD => ?_⟩
        refine lcT (K := K) (List.replicate 6 none) rfl (by show 6 ≤ 100000; decide) (SqT.of hT) nD ?_ ?_
        · intro k z G Q2 Z2 hz sG _ hZ
          obtain ⟨t, ht, ty⟩ := tys k z hz
          refine ⟨rfl, ?_⟩
          refine ⟨rfl, _, rfl, .ref b0, gs, rfl, Rdd.ex (Ex.same sG) _ ru11, gt_gv gtg, fun o3 R3 S3 x3 G2 fw3 nd3 lt3 sg gr3 => ?_⟩
          rw [gt_ren gtg fw3] at gr3
          obtain ⟨dx3, pR3, pS3, vN3, hx3, _⟩ := id gr3.ex
          have tyG := Ex.ty (Ex.same (sG.trans sg)) ty
          refine ⟨_, rfl, x3, dx3, _, .type t, rfl, hx3, tyG, nf t ht, x3, z, gs, R3, S3, rfl, gr3, gtg.rng, .inr ⟨.type t, tyG, kt t ht, false, rfl, _, rfl, ?_⟩⟩
          refine iteF (hZ G2 ?_ sg)
          have hk : k < 6 := by
            have := (List.getElem?_eq_some_iff.mp hz).1
            exact this
          rw [List.getElem?_replicate, if_pos hk]
        intro H12 t4 hD
        rw [show (List.replicate 6 (none : Option V)).filterMap id = [] from rfl] at hD
        refine ⟨(by show 0 ≤ sizeLine; omega), fun e0 ne0 => ?_⟩
        have t5 := Same.new (o := .lst []) ne0
        refine ⟨.list [], .list [], .lst (SqL.of (t5 _ _ hD)) .nil, .lst (SqL.of upd_same) .nil, by rfl, by rfl, _, rfl, ?_⟩
        refine iteF ⟨_, rfl, ?_⟩
        have t8 := ((s78.trans t13).trans t4).trans t5
        exact ⟨_, _, .ref b0, gs, rfl, j06.trans (Jst.same j06.2.1 t8), Rdd.ex (Ex.same (((s78.trans t13).trans t4).trans t5)) _ ru6, gtg⟩
      · rintro σ' H4 ⟨y4, y5, vb, bs, rfl, j4, _⟩
        exact ⟨_, _, _, _, _, rfl, s1.trans (fun b o hb => j4.2.2 b o (ne_of_none hb np) (s2 _ _ hb))⟩
    · rintro σ' H1 ⟨y1, y2, y3, y4, y5, rfl, s1⟩
      dsimp only
      refine ts_make (K := K) (C := C) (ns := ns8) (gva_cons gFn (gva_cons gW0 (gva_cons gVr (gva_cons gFn (gva_cons gW2 (gva_cons gFn gva_nil)))))) ns8_gv fun o R S x H2 fw s2 gr => ?_
      rw [ns8_ren fw] at gr
      refine ts_gv (K := K) (gv_tup (gva_cons gFn (gva_cons gFn (gva_cons gFn (gva_cons gW2 (gva_cons gVr gva_nil))))) (Nat.le_of_ble_eq_true rfl)) fun vd H3 s3 rd => ?_
      refine ts_make (K := K) (C := C) (ns := ns8c) (gva_cons gW3 (gva_cons gW0 gva_nil)) (gt_gv ns8c_gt) fun o2 R2 S2 y H4 fw2 s4 gr2 => ?_
      rw [gt_ren ns8c_gt fw2] at gr2
      have s24 := s3.trans s4
      have gx := gr.same s24
      obtain ⟨dx, pR, pS, vN, hx, _⟩ := id gx.ex
      obtain ⟨dy, qR, qS, vM, hy, _⟩ := id gr2.ex
      have rd4 : Rdd K H4 vd (.tup (ns8b.map ndD)) := Rdd.ex (Ex.same s4) _ rd
      have ⟨k1, k2⟩ := nds_tup ns8b_gt.rng
      have f1 : fnsG ns8b = [0, 1, 2] := by decide +kernel
      have f2 : fnsG ns8c = [] := by decide +kernel
      refine ⟨_, rfl, x, dx, _, rfl, hx, x, ns8b, R, S, rfl, gx, fun v rv => ?_⟩
      refine ⟨_, rfl, .tuple _, .tuple _, nds_tdp rv, nds_tdp rd4, k1, k1, _, rfl, ?_⟩
      rw [k2]
      refine iteT ⟨_, rfl, x, dx, _, rfl, hx, x, ns8b, R, S, rfl, gx, by decide, fun p5 H5 s5 np5 hp5 => ?_⟩
      refine ⟨(by show 3 ≤ sizeLine; omega), fun p6 np6 => ?_⟩
      have s6 := Same.new (o := .tup [V.int 0, .int 1, .int 2]) np6
      have hp6 : (upd H5 p6 (.tup [V.int 0, .int 1, .int 2])) p6 = some (.tup (iL [0, 1, 2])) := upd_same
      generalize upd H5 p6 (.tup [V.int 0, .int 1, .int 2]) = H6 at s6 hp6 ⊢
      refine ⟨tupP (fnsG ns8b), tupP [0, 1, 2], .tup (SqT.of (s6 _ _ hp5)) (ints_dp _), .tup (SqT.of hp6) (ints_dp _), tup_shaped _, tup_shaped _, _, rfl, ?_⟩
      rw [tup_eqv, decide_eq_true f1]
      refine iteT ⟨_, rfl, y, dy, _, rfl, (s5.trans s6) _ _ hy, y, ns8c, R2, S2, rfl, gr2.same (s5.trans s6), by decide, fun H7 s7 => ⟨_, rfl, rfl, ?_⟩⟩
      rw [str_dec, f2, decide_eq_true (by decide +kernel)]
      exact q _
end
end Sl

set_option Elab.async false
set_option linter.all false
set_option maxRecDepth 100000
set_option maxHeartbeats 2000000
namespace Sl
open PySem PySem.Spec PyProof.Rows L2

theorem all_mk {P : Program} {w : World} {K : PySem.W.Frag} {h : Heap} {mg : Str → Option Value} {fa : Addr} (X : K.In h) (G : h.Ns mainGlobals mg) (hfa : mg "law" = some (.ref fa))
    {fWh : Addr} {odWh anWh : Option Addr} {slWh : Array (Option Value)} {ocWh kVWh dcWh pmWh cdWh ctWh : Value}
    {fBe : Addr} {odBe anBe : Option Addr} {slBe : Array (Option Value)} {ocBe kVBe dcBe pmBe cdBe ctBe : Value}
    {fNm : Addr} {odNm anNm : Option Addr} {slNm : Array (Option Value)} {ocNm kVNm dcNm pmNm cdNm ctNm : Value}
    {fKd : Addr} {odKd anKd : Option Addr} {slKd : Array (Option Value)} {ocKd kVKd dcKd pmKd cdKd ctKd : Value}
    {fWk : Addr} {odWk anWk : Option Addr} {slWk : Array (Option Value)} {ocWk kVWk dcWk pmWk cdWk ctWk : Value}
    {fRw : Addr} {odRw anRw : Option Addr} {slRw : Array (Option Value)} {ocRw kVRw dcRw pmRw cdRw ctRw : Value}
    {fPo : Addr} {odPo anPo : Option Addr} {slPo : Array (Option Value)} {ocPo kVPo dcPo pmPo cdPo ctPo : Value}
    {fNd : Addr} {odNd anNd : Option Addr} {slNd : Array (Option Value)} {ocNd kVNd dcNd pmNd cdNd ctNd : Value}
    {fAn : Addr} {odAn anAn : Option Addr} {slAn : Array (Option Value)} {ocAn kVAn dcAn pmAn cdAn ctAn : Value}
    {fPr : Addr} {odPr anPr : Option Addr} {slPr : Array (Option Value)} {ocPr kVPr dcPr pmPr cdPr ctPr : Value}
    {fNn : Addr} {odNn anNn : Option Addr} {slNn : Array (Option Value)} {ocNn kVNn dcNn pmNn cdNn ctNn : Value}
    {fNe : Addr} {odNe anNe : Option Addr} {slNe : Array (Option Value)} {ocNe kVNe dcNe pmNe cdNe ctNe : Value}
    {fSc : Addr} {odSc anSc : Option Addr} {slSc : Array (Option Value)} {ocSc kVSc dcSc pmSc cdSc ctSc : Value}
    {fWa : Addr} {odWa anWa : Option Addr} {slWa : Array (Option Value)} {ocWa kVWa dcWa pmWa cdWa ctWa : Value}
    {fPt : Addr} {odPt anPt : Option Addr} {slPt : Array (Option Value)} {ocPt kVPt dcPt pmPt cdPt ctPt : Value}
    {fNu : Addr} {odNu anNu : Option Addr} {slNu : Array (Option Value)} {ocNu kVNu dcNu pmNu cdNu ctNu : Value}
    {fCb : Addr} {odCb anCb : Option Addr} {slCb : Array (Option Value)} {ocCb kVCb dcCb pmCb cdCb ctCb : Value}
    {fSt : Addr} {odSt anSt : Option Addr} {slSt : Array (Option Value)} {ocSt kVSt dcSt pmSt cdSt ctSt : Value}
    {fDr : Addr} {odDr anDr : Option Addr} {slDr : Array (Option Value)} {ocDr kVDr dcDr pmDr cdDr ctDr : Value}
    {fPk : Addr} {odPk anPk : Option Addr} {slPk : Array (Option Value)} {ocPk kVPk dcPk pmPk cdPk ctPk : Value}
    {fMx : Addr} {odMx anMx : Option Addr} {slMx : Array (Option Value)} {ocMx kVMx dcMx pmMx cdMx ctMx : Value}
    {fIn : Addr} {odIn anIn : Option Addr} {slIn : Array (Option Value)} {ocIn kVIn dcIn pmIn cdIn ctIn : Value}
    {fDn : Addr} {odDn anDn : Option Addr} {slDn : Array (Option Value)} {ocDn kVDn dcDn pmDn cdDn ctDn : Value}
    {fBk : Addr} {odBk anBk : Option Addr} {slBk : Array (Option Value)} {ocBk kVBk dcBk pmBk cdBk ctBk : Value}
    {fHd : Addr} {odHd anHd : Option Addr} {slHd : Array (Option Value)} {ocHd kVHd dcHd pmHd cdHd ctHd : Value}
    {fTe : Addr} {odTe anTe : Option Addr} {slTe : Array (Option Value)} {ocTe kVTe dcTe pmTe cdTe ctTe : Value}
    {fPa : Addr} {odPa anPa : Option Addr} {slPa : Array (Option Value)} {ocPa kVPa dcPa pmPa cdPa ctPa : Value}
    {fPs : Addr} {odPs anPs : Option Addr} {slPs : Array (Option Value)} {ocPs kVPs dcPs pmPs cdPs ctPs : Value}
    {fBi : Addr} {odBi anBi : Option Addr} {slBi : Array (Option Value)} {ocBi kVBi dcBi pmBi cdBi ctBi : Value}
    {fHe : Addr} {odHe anHe : Option Addr} {slHe : Array (Option Value)} {ocHe kVHe dcHe pmHe cdHe ctHe : Value}
    {fKe : Addr} {odKe anKe : Option Addr} {slKe : Array (Option Value)} {ocKe kVKe dcKe pmKe cdKe ctKe : Value}
    {fKs : Addr} {odKs anKs : Option Addr} {slKs : Array (Option Value)} {ocKs kVKs dcKs pmKs cdKs ctKs : Value}
    {fGr : Addr} {odGr anGr : Option Addr} {slGr : Array (Option Value)} {ocGr kVGr dcGr pmGr cdGr ctGr : Value}
    {fLB : Addr} {odLB anLB : Option Addr} {slLB : Array (Option Value)} {ocLB kVLB dcLB pmLB cdLB ctLB : Value}
    {fLW : Addr} {odLW anLW : Option Addr} {slLW : Array (Option Value)} {ocLW kVLW dcLW pmLW cdLW ctLW : Value}
    {fLn : Addr} {odLn anLn : Option Addr} {slLn : Array (Option Value)} {ocLn kVLn dcLn pmLn cdLn ctLn : Value}
    {fLh : Addr} {odLh anLh : Option Addr} {slLh : Array (Option Value)} {ocLh kVLh dcLh pmLh cdLh ctLh : Value}
    {fLM : Addr} {odLM anLM : Option Addr} {slLM : Array (Option Value)} {ocLM kVLM dcLM pmLM cdLM ctLM : Value}
    {fLa : Addr} {odLa anLa : Option Addr} {slLa : Array (Option Value)} {ocLa kVLa dcLa pmLa cdLa ctLa : Value}
    {fGI : Addr} {odGI anGI : Option Addr} {slGI : Array (Option Value)} {ocGI kVGI dcGI pmGI cdGI ctGI : Value}
    {fGN : Addr} {odGN anGN : Option Addr} {slGN : Array (Option Value)} {ocGN kVGN dcGN pmGN cdGN ctGN : Value}
    {fGC : Addr} {odGC anGC : Option Addr} {slGC : Array (Option Value)} {ocGC kVGC dcGC pmGC cdGC ctGC : Value}
    {fGB : Addr} {odGB anGB : Option Addr} {slGB : Array (Option Value)} {ocGB kVGB dcGB pmGB cdGB ctGB : Value}
    {fGL : Addr} {odGL anGL : Option Addr} {slGL : Array (Option Value)} {ocGL kVGL dcGL pmGL cdGL ctGL : Value}
    {fGQ : Addr} {odGQ anGQ : Option Addr} {slGQ : Array (Option Value)} {ocGQ kVGQ dcGQ pmGQ cdGQ ctGQ : Value}
    {fGi : Addr} {odGi anGi : Option Addr} {slGi : Array (Option Value)} {ocGi kVGi dcGi pmGi cdGi ctGi : Value}
    {fGy : Addr} {odGy anGy : Option Addr} {slGy : Array (Option Value)} {ocGy kVGy dcGy pmGy cdGy ctGy : Value}
    {fGs : Addr} {odGs anGs : Option Addr} {slGs : Array (Option Value)} {ocGs kVGs dcGs pmGs cdGs ctGs : Value}
    {fOf : Addr} {odOf anOf : Option Addr} {slOf : Array (Option Value)} {ocOf kVOf dcOf pmOf cdOf ctOf : Value}
    {fGp : Addr} {odGp anGp : Option Addr} {slGp : Array (Option Value)} {ocGp kVGp dcGp pmGp cdGp ctGp : Value}
    {fGf : Addr} {odGf anGf : Option Addr} {slGf : Array (Option Value)} {ocGf kVGf dcGf pmGf cdGf ctGf : Value}
    {CG : Addr}
    {vE vT vM : Int} {tE tT tM : Tok}
    {t1 t2 t3 : Tok} {aS : Addr} {ddS : Option Addr} {slS : Array (Option Value)} {nS : Nat}
    (nE : PySem.W.nsIn K mainGlobals "MAX_LETTERS" = some (some (.int vE tE)))
    (eE : vE = 8)
    (nT : PySem.W.nsIn K mainGlobals "MAX_TERMS" = some (some (.int vT tT)))
    (eT : vT = 3)
    (nM : PySem.W.nsIn K mainGlobals "MAX_NODES" = some (some (.int vM tM)))
    (eM : vM = 100)
    (aSW : PySem.W.nsIn K mainGlobals "SIGN_WORDS" = some (some (.ref aS)))
    (lSW : K.lookup aS = some ⟨.type "tuple", ddS, .seq #[.str "fun" t1, .str "let" t2, .str "in" t3] nS, slS⟩)
    (aWh_ : PySem.W.nsIn K mainGlobals "is_whole" = some (some (.ref fWh)))
    (aBe_ : PySem.W.nsIn K mainGlobals "is_below" = some (some (.ref fBe)))
    (aNm_ : PySem.W.nsIn K mainGlobals "is_name" = some (some (.ref fNm)))
    (aKd_ : PySem.W.nsIn K mainGlobals "children_of" = some (some (.ref fKd)))
    (aWk_ : PySem.W.nsIn K mainGlobals "with_children" = some (some (.ref fWk)))
    (aRw_ : PySem.W.nsIn K mainGlobals "_is_row" = some (some (.ref fRw)))
    (aPo_ : PySem.W.nsIn K mainGlobals "_is_pair_of" = some (some (.ref fPo)))
    (aNd_ : PySem.W.nsIn K mainGlobals "_is_node" = some (some (.ref fNd)))
    (aAn_ : PySem.W.nsIn K mainGlobals "are_nodes" = some (some (.ref fAn)))
    (aPr_ : PySem.W.nsIn K mainGlobals "parents_of" = some (some (.ref fPr)))
    (aNn_ : PySem.W.nsIn K mainGlobals "_in_need" = some (some (.ref fNn)))
    (aNe_ : PySem.W.nsIn K mainGlobals "needs_of" = some (some (.ref fNe)))
    (aSc_ : PySem.W.nsIn K mainGlobals "scopes_of" = some (some (.ref fSc)))
    (aWa_ : PySem.W.nsIn K mainGlobals "first_walk" = some (some (.ref fWa)))
    (aPt_ : PySem.W.nsIn K mainGlobals "pointed" = some (some (.ref fPt)))
    (aNu_ : PySem.W.nsIn K mainGlobals "numbered" = some (some (.ref fNu)))
    (aCb_ : PySem.W.nsIn K mainGlobals "check_below" = some (some (.ref fCb)))
    (aSt_ : PySem.W.nsIn K mainGlobals "_law_stream" = some (some (.ref fSt)))
    (aDr_ : PySem.W.nsIn K mainGlobals "_law_draw" = some (some (.ref fDr)))
    (aPk_ : PySem.W.nsIn K mainGlobals "_law_pick" = some (some (.ref fPk)))
    (aMx_ : PySem.W.nsIn K mainGlobals "_law_mixed" = some (some (.ref fMx)))
    (aIn_ : PySem.W.nsIn K mainGlobals "_law_inner" = some (some (.ref fIn)))
    (aDn_ : PySem.W.nsIn K mainGlobals "_law_drawn" = some (some (.ref fDn)))
    (aBk_ : PySem.W.nsIn K mainGlobals "_law_block" = some (some (.ref fBk)))
    (aHd_ : PySem.W.nsIn K mainGlobals "_law_headed" = some (some (.ref fHd)))
    (aTe_ : PySem.W.nsIn K mainGlobals "_law_term" = some (some (.ref fTe)))
    (aPa_ : PySem.W.nsIn K mainGlobals "_law_part" = some (some (.ref fPa)))
    (aPs_ : PySem.W.nsIn K mainGlobals "_law_paths" = some (some (.ref fPs)))
    (aBi_ : PySem.W.nsIn K mainGlobals "_law_binder" = some (some (.ref fBi)))
    (aHe_ : PySem.W.nsIn K mainGlobals "_law_head" = some (some (.ref fHe)))
    (aKe_ : PySem.W.nsIn K mainGlobals "_law_key" = some (some (.ref fKe)))
    (aKs_ : PySem.W.nsIn K mainGlobals "_law_keys" = some (some (.ref fKs)))
    (aGr_ : PySem.W.nsIn K mainGlobals "_law_graph" = some (some (.ref fGr)))
    (aLB_ : PySem.W.nsIn K mainGlobals "_law_below" = some (some (.ref fLB)))
    (aLW_ : PySem.W.nsIn K mainGlobals "_law_walked" = some (some (.ref fLW)))
    (aLn_ : PySem.W.nsIn K mainGlobals "_law_nodes" = some (some (.ref fLn)))
    (aLh_ : PySem.W.nsIn K mainGlobals "_law_shuffled" = some (some (.ref fLh)))
    (aLM_ : PySem.W.nsIn K mainGlobals "_law_made_right" = some (some (.ref fLM)))
    (aLa_ : PySem.W.nsIn K mainGlobals "law" = some (some (.ref fLa)))
    (cCG : PySem.W.nsIn K mainGlobals "Graph" = some (some (.ref CG)))
    (aGI_ : PySem.W.findIn K (.ref CG) "__init__" = some (some (.ref fGI)))
    (iGI_ : PySem.W.isFn K (.ref fGI) = true)
    (aGN_ : PySem.W.findIn K (.ref CG) "needs" = some (some (.ref fGN)))
    (iGN_ : PySem.W.isFn K (.ref fGN) = true)
    (aGC_ : PySem.W.findIn K (.ref CG) "check" = some (some (.ref fGC)))
    (iGC_ : PySem.W.isFn K (.ref fGC) = true)
    (aGB_ : PySem.W.findIn K (.ref CG) "below" = some (some (.ref fGB)))
    (iGB_ : PySem.W.isFn K (.ref fGB) = true)
    (aGL_ : PySem.W.findIn K (.ref CG) "__len__" = some (some (.ref fGL)))
    (iGL_ : PySem.W.isFn K (.ref fGL) = true)
    (aGQ_ : PySem.W.findIn K (.ref CG) "__eq__" = some (some (.ref fGQ)))
    (iGQ_ : PySem.W.isFn K (.ref fGQ) = true)
    (aGi_ : PySem.W.findIn K (.ref CG) "__getitem__" = some (some (.ref fGi)))
    (iGi_ : PySem.W.isFn K (.ref fGi) = true)
    (aGy_ : PySem.W.findIn K (.ref CG) "__iter__" = some (some (.ref fGy)))
    (iGy_ : PySem.W.isFn K (.ref fGy) = true)
    (aGs_ : PySem.W.findIn K (.ref CG) "__str__" = some (some (.ref fGs)))
    (iGs_ : PySem.W.isFn K (.ref fGs) = true)
    (pgG : PySem.W.plainGet K CG Str.empty = true)
    (hdG : PySem.W.hasDictIn K CG = true)
    (poG : PySem.W.plainOver K CG = true)
    (saG : PySem.W.findIn K (.ref CG) "__setattr__" = some (some (.builtin "object.__setattr__")))
    (mkG : PySem.W.makesIn K CG = true)
    (kcG : PySem.W.keepIn K (.ref CG) = true)
    (naG0 : PySem.W.findIn K (.ref CG) "_nodes" = some none)
    (naG1 : PySem.W.findIn K (.ref CG) "_needs" = some none)
    (naG2 : PySem.W.findIn K (.ref CG) "_scopes" = some none)
    {pOf : Addr} {restOf : List Value}
    (aOf_ : PySem.W.findIn K (.ref CG) "of" = some (some (.ref pOf)))
    (rOf_ : PySem.W.recIn K pOf "classmethod" = some (.ref fOf :: restOf))
    (hOf_ : PySem.W.fnIn K fOf = true)
    (dOf_ : PySem.W.findCls K (.ref CG) (.type "type") "of" = some (.get (.builtin "classmethod.__get__") (.ref pOf) .none (.ref CG)))
    (rdG : PySem.W.readsIn K CG (.type "type") = true)
    (gaG : PySem.W.specialIn K (.ref CG) "__getattribute__" = some (some (.builtin "type.__getattribute__")))
    {pGp : Addr} {restGp : List Value}
    (aGp_ : PySem.W.findIn K (.ref CG) "nodes" = some (some (.ref pGp)))
    (qGp_ : PySem.W.specialIn K (.ref pGp) "__get__" = some (some (.builtin "property.__get__")))
    (wGp_ : PySem.W.takesIn K (.ref pGp) = some true)
    (rGp_ : PySem.W.recIn K pGp "property" = some (.ref fGp :: restGp))
    {pGf : Addr} {restGf : List Value}
    (aGf_ : PySem.W.findIn K (.ref CG) "functions" = some (some (.ref pGf)))
    (qGf_ : PySem.W.specialIn K (.ref pGf) "__get__" = some (some (.builtin "property.__get__")))
    (wGf_ : PySem.W.takesIn K (.ref pGf) = some true)
    (rGf_ : PySem.W.recIn K pGf "property" = some (.ref fGf :: restGf))
    (lWh_ : K.lookup fWh = some ⟨ocWh, odWh, .func (PySem.W.fnOf "is_whole" "is_whole" (defArgs sWhole) (defBody sWhole) (defScope sWhole) .none kVWh dcWh pmWh anWh cdWh ctWh), slWh⟩)
    (cWh_ : PySem.W.codeIn K cdWh "is_whole" = true)
    (kWh_ : PySem.W.keepIn K (.ref fWh) = true)
    (lBe_ : K.lookup fBe = some ⟨ocBe, odBe, .func (PySem.W.fnOf "is_below" "is_below" (defArgs sBelow) (defBody sBelow) (defScope sBelow) .none kVBe dcBe pmBe anBe cdBe ctBe), slBe⟩)
    (cBe_ : PySem.W.codeIn K cdBe "is_below" = true)
    (kBe_ : PySem.W.keepIn K (.ref fBe) = true)
    (lNm_ : K.lookup fNm = some ⟨ocNm, odNm, .func (PySem.W.fnOf "is_name" "is_name" (defArgs sName) (defBody sName) (defScope sName) .none kVNm dcNm pmNm anNm cdNm ctNm), slNm⟩)
    (cNm_ : PySem.W.codeIn K cdNm "is_name" = true)
    (kNm_ : PySem.W.keepIn K (.ref fNm) = true)
    (lKd_ : K.lookup fKd = some ⟨ocKd, odKd, .func (PySem.W.fnOf "children_of" "children_of" (defArgs sKids) (defBody sKids) (defScope sKids) .none kVKd dcKd pmKd anKd cdKd ctKd), slKd⟩)
    (cKd_ : PySem.W.codeIn K cdKd "children_of" = true)
    (kKd_ : PySem.W.keepIn K (.ref fKd) = true)
    (lWk_ : K.lookup fWk = some ⟨ocWk, odWk, .func (PySem.W.fnOf "with_children" "with_children" (defArgs sWithK) (defBody sWithK) (defScope sWithK) .none kVWk dcWk pmWk anWk cdWk ctWk), slWk⟩)
    (cWk_ : PySem.W.codeIn K cdWk "with_children" = true)
    (kWk_ : PySem.W.keepIn K (.ref fWk) = true)
    (lRw_ : K.lookup fRw = some ⟨ocRw, odRw, .func (PySem.W.fnOf "_is_row" "_is_row" (defArgs sRow) (defBody sRow) (defScope sRow) .none kVRw dcRw pmRw anRw cdRw ctRw), slRw⟩)
    (cRw_ : PySem.W.codeIn K cdRw "_is_row" = true)
    (kRw_ : PySem.W.keepIn K (.ref fRw) = true)
    (lPo_ : K.lookup fPo = some ⟨ocPo, odPo, .func (PySem.W.fnOf "_is_pair_of" "_is_pair_of" (defArgs sPairOf) (defBody sPairOf) (defScope sPairOf) .none kVPo dcPo pmPo anPo cdPo ctPo), slPo⟩)
    (cPo_ : PySem.W.codeIn K cdPo "_is_pair_of" = true)
    (kPo_ : PySem.W.keepIn K (.ref fPo) = true)
    (lNd_ : K.lookup fNd = some ⟨ocNd, odNd, .func (PySem.W.fnOf "_is_node" "_is_node" (defArgs sIsNd) (defBody sIsNd) (defScope sIsNd) .none kVNd dcNd pmNd anNd cdNd ctNd), slNd⟩)
    (cNd_ : PySem.W.codeIn K cdNd "_is_node" = true)
    (kNd_ : PySem.W.keepIn K (.ref fNd) = true)
    (lAn_ : K.lookup fAn = some ⟨ocAn, odAn, .func (PySem.W.fnOf "are_nodes" "are_nodes" (defArgs sAreN) (defBody sAreN) (defScope sAreN) .none kVAn dcAn pmAn anAn cdAn ctAn), slAn⟩)
    (cAn_ : PySem.W.codeIn K cdAn "are_nodes" = true)
    (kAn_ : PySem.W.keepIn K (.ref fAn) = true)
    (lPr_ : K.lookup fPr = some ⟨ocPr, odPr, .func (PySem.W.fnOf "parents_of" "parents_of" (defArgs sParents) (defBody sParents) (defScope sParents) .none kVPr dcPr pmPr anPr cdPr ctPr), slPr⟩)
    (cPr_ : PySem.W.codeIn K cdPr "parents_of" = true)
    (kPr_ : PySem.W.keepIn K (.ref fPr) = true)
    (lNn_ : K.lookup fNn = some ⟨ocNn, odNn, .func (PySem.W.fnOf "_in_need" "_in_need" (defArgs sInNeed) (defBody sInNeed) (defScope sInNeed) .none kVNn dcNn pmNn anNn cdNn ctNn), slNn⟩)
    (cNn_ : PySem.W.codeIn K cdNn "_in_need" = true)
    (kNn_ : PySem.W.keepIn K (.ref fNn) = true)
    (lNe_ : K.lookup fNe = some ⟨ocNe, odNe, .func (PySem.W.fnOf "needs_of" "needs_of" (defArgs sNeeds) (defBody sNeeds) (defScope sNeeds) .none kVNe dcNe pmNe anNe cdNe ctNe), slNe⟩)
    (cNe_ : PySem.W.codeIn K cdNe "needs_of" = true)
    (kNe_ : PySem.W.keepIn K (.ref fNe) = true)
    (lSc_ : K.lookup fSc = some ⟨ocSc, odSc, .func (PySem.W.fnOf "scopes_of" "scopes_of" (defArgs sScopes) (defBody sScopes) (defScope sScopes) .none kVSc dcSc pmSc anSc cdSc ctSc), slSc⟩)
    (cSc_ : PySem.W.codeIn K cdSc "scopes_of" = true)
    (kSc_ : PySem.W.keepIn K (.ref fSc) = true)
    (lWa_ : K.lookup fWa = some ⟨ocWa, odWa, .func (PySem.W.fnOf "first_walk" "first_walk" (defArgs sWalk) (defBody sWalk) (defScope sWalk) .none kVWa dcWa pmWa anWa cdWa ctWa), slWa⟩)
    (cWa_ : PySem.W.codeIn K cdWa "first_walk" = true)
    (kWa_ : PySem.W.keepIn K (.ref fWa) = true)
    (lPt_ : K.lookup fPt = some ⟨ocPt, odPt, .func (PySem.W.fnOf "pointed" "pointed" (defArgs sPointed) (defBody sPointed) (defScope sPointed) .none kVPt dcPt pmPt anPt cdPt ctPt), slPt⟩)
    (cPt_ : PySem.W.codeIn K cdPt "pointed" = true)
    (kPt_ : PySem.W.keepIn K (.ref fPt) = true)
    (lNu_ : K.lookup fNu = some ⟨ocNu, odNu, .func (PySem.W.fnOf "numbered" "numbered" (defArgs sNumbered) (defBody sNumbered) (defScope sNumbered) .none kVNu dcNu pmNu anNu cdNu ctNu), slNu⟩)
    (cNu_ : PySem.W.codeIn K cdNu "numbered" = true)
    (kNu_ : PySem.W.keepIn K (.ref fNu) = true)
    (lCb_ : K.lookup fCb = some ⟨ocCb, odCb, .func (PySem.W.fnOf "check_below" "check_below" (defArgs sCheckB) (defBody sCheckB) (defScope sCheckB) .none kVCb dcCb pmCb anCb cdCb ctCb), slCb⟩)
    (cCb_ : PySem.W.codeIn K cdCb "check_below" = true)
    (kCb_ : PySem.W.keepIn K (.ref fCb) = true)
    (lSt_ : K.lookup fSt = some ⟨ocSt, odSt, .func (PySem.W.fnOf "_law_stream" "_law_stream" (defArgs sStream) (defBody sStream) (defScope sStream) .none kVSt dcSt pmSt anSt cdSt ctSt), slSt⟩)
    (cSt_ : PySem.W.codeIn K cdSt "_law_stream" = true)
    (kSt_ : PySem.W.keepIn K (.ref fSt) = true)
    (lDr_ : K.lookup fDr = some ⟨ocDr, odDr, .func (PySem.W.fnOf "_law_draw" "_law_draw" (defArgs sDraw) (defBody sDraw) (defScope sDraw) .none kVDr dcDr pmDr anDr cdDr ctDr), slDr⟩)
    (cDr_ : PySem.W.codeIn K cdDr "_law_draw" = true)
    (kDr_ : PySem.W.keepIn K (.ref fDr) = true)
    (lPk_ : K.lookup fPk = some ⟨ocPk, odPk, .func (PySem.W.fnOf "_law_pick" "_law_pick" (defArgs sPick) (defBody sPick) (defScope sPick) .none kVPk dcPk pmPk anPk cdPk ctPk), slPk⟩)
    (cPk_ : PySem.W.codeIn K cdPk "_law_pick" = true)
    (kPk_ : PySem.W.keepIn K (.ref fPk) = true)
    (lMx_ : K.lookup fMx = some ⟨ocMx, odMx, .func (PySem.W.fnOf "_law_mixed" "_law_mixed" (defArgs sMixed) (defBody sMixed) (defScope sMixed) .none kVMx dcMx pmMx anMx cdMx ctMx), slMx⟩)
    (cMx_ : PySem.W.codeIn K cdMx "_law_mixed" = true)
    (kMx_ : PySem.W.keepIn K (.ref fMx) = true)
    (lIn_ : K.lookup fIn = some ⟨ocIn, odIn, .func (PySem.W.fnOf "_law_inner" "_law_inner" (defArgs sInner) (defBody sInner) (defScope sInner) .none kVIn dcIn pmIn anIn cdIn ctIn), slIn⟩)
    (cIn_ : PySem.W.codeIn K cdIn "_law_inner" = true)
    (kIn_ : PySem.W.keepIn K (.ref fIn) = true)
    (lDn_ : K.lookup fDn = some ⟨ocDn, odDn, .func (PySem.W.fnOf "_law_drawn" "_law_drawn" (defArgs sDrawn) (defBody sDrawn) (defScope sDrawn) .none kVDn dcDn pmDn anDn cdDn ctDn), slDn⟩)
    (cDn_ : PySem.W.codeIn K cdDn "_law_drawn" = true)
    (kDn_ : PySem.W.keepIn K (.ref fDn) = true)
    (lBk_ : K.lookup fBk = some ⟨ocBk, odBk, .func (PySem.W.fnOf "_law_block" "_law_block" (defArgs sBlock) (defBody sBlock) (defScope sBlock) .none kVBk dcBk pmBk anBk cdBk ctBk), slBk⟩)
    (cBk_ : PySem.W.codeIn K cdBk "_law_block" = true)
    (kBk_ : PySem.W.keepIn K (.ref fBk) = true)
    (lHd_ : K.lookup fHd = some ⟨ocHd, odHd, .func (PySem.W.fnOf "_law_headed" "_law_headed" (defArgs sHeaded) (defBody sHeaded) (defScope sHeaded) .none kVHd dcHd pmHd anHd cdHd ctHd), slHd⟩)
    (cHd_ : PySem.W.codeIn K cdHd "_law_headed" = true)
    (kHd_ : PySem.W.keepIn K (.ref fHd) = true)
    (lTe_ : K.lookup fTe = some ⟨ocTe, odTe, .func (PySem.W.fnOf "_law_term" "_law_term" (defArgs sTerm) (defBody sTerm) (defScope sTerm) .none kVTe dcTe pmTe anTe cdTe ctTe), slTe⟩)
    (cTe_ : PySem.W.codeIn K cdTe "_law_term" = true)
    (kTe_ : PySem.W.keepIn K (.ref fTe) = true)
    (lPa_ : K.lookup fPa = some ⟨ocPa, odPa, .func (PySem.W.fnOf "_law_part" "_law_part" (defArgs sPart) (defBody sPart) (defScope sPart) .none kVPa dcPa pmPa anPa cdPa ctPa), slPa⟩)
    (cPa_ : PySem.W.codeIn K cdPa "_law_part" = true)
    (kPa_ : PySem.W.keepIn K (.ref fPa) = true)
    (lPs_ : K.lookup fPs = some ⟨ocPs, odPs, .func (PySem.W.fnOf "_law_paths" "_law_paths" (defArgs sPaths) (defBody sPaths) (defScope sPaths) .none kVPs dcPs pmPs anPs cdPs ctPs), slPs⟩)
    (cPs_ : PySem.W.codeIn K cdPs "_law_paths" = true)
    (kPs_ : PySem.W.keepIn K (.ref fPs) = true)
    (lBi_ : K.lookup fBi = some ⟨ocBi, odBi, .func (PySem.W.fnOf "_law_binder" "_law_binder" (defArgs sBinder) (defBody sBinder) (defScope sBinder) .none kVBi dcBi pmBi anBi cdBi ctBi), slBi⟩)
    (cBi_ : PySem.W.codeIn K cdBi "_law_binder" = true)
    (kBi_ : PySem.W.keepIn K (.ref fBi) = true)
    (lHe_ : K.lookup fHe = some ⟨ocHe, odHe, .func (PySem.W.fnOf "_law_head" "_law_head" (defArgs sHead) (defBody sHead) (defScope sHead) .none kVHe dcHe pmHe anHe cdHe ctHe), slHe⟩)
    (cHe_ : PySem.W.codeIn K cdHe "_law_head" = true)
    (kHe_ : PySem.W.keepIn K (.ref fHe) = true)
    (lKe_ : K.lookup fKe = some ⟨ocKe, odKe, .func (PySem.W.fnOf "_law_key" "_law_key" (defArgs sKey) (defBody sKey) (defScope sKey) .none kVKe dcKe pmKe anKe cdKe ctKe), slKe⟩)
    (cKe_ : PySem.W.codeIn K cdKe "_law_key" = true)
    (kKe_ : PySem.W.keepIn K (.ref fKe) = true)
    (lKs_ : K.lookup fKs = some ⟨ocKs, odKs, .func (PySem.W.fnOf "_law_keys" "_law_keys" (defArgs sKeys) (defBody sKeys) (defScope sKeys) .none kVKs dcKs pmKs anKs cdKs ctKs), slKs⟩)
    (cKs_ : PySem.W.codeIn K cdKs "_law_keys" = true)
    (kKs_ : PySem.W.keepIn K (.ref fKs) = true)
    (lGr_ : K.lookup fGr = some ⟨ocGr, odGr, .func (PySem.W.fnOf "_law_graph" "_law_graph" (defArgs sGraph) (defBody sGraph) (defScope sGraph) .none kVGr dcGr pmGr anGr cdGr ctGr), slGr⟩)
    (cGr_ : PySem.W.codeIn K cdGr "_law_graph" = true)
    (kGr_ : PySem.W.keepIn K (.ref fGr) = true)
    (lLB_ : K.lookup fLB = some ⟨ocLB, odLB, .func (PySem.W.fnOf "_law_below" "_law_below" (defArgs sLBelow) (defBody sLBelow) (defScope sLBelow) .none kVLB dcLB pmLB anLB cdLB ctLB), slLB⟩)
    (cLB_ : PySem.W.codeIn K cdLB "_law_below" = true)
    (kLB_ : PySem.W.keepIn K (.ref fLB) = true)
    (lLW_ : K.lookup fLW = some ⟨ocLW, odLW, .func (PySem.W.fnOf "_law_walked" "_law_walked" (defArgs sLWalked) (defBody sLWalked) (defScope sLWalked) .none kVLW dcLW pmLW anLW cdLW ctLW), slLW⟩)
    (cLW_ : PySem.W.codeIn K cdLW "_law_walked" = true)
    (kLW_ : PySem.W.keepIn K (.ref fLW) = true)
    (lLn_ : K.lookup fLn = some ⟨ocLn, odLn, .func (PySem.W.fnOf "_law_nodes" "_law_nodes" (defArgs sNodes) (defBody sNodes) (defScope sNodes) .none kVLn dcLn pmLn anLn cdLn ctLn), slLn⟩)
    (cLn_ : PySem.W.codeIn K cdLn "_law_nodes" = true)
    (kLn_ : PySem.W.keepIn K (.ref fLn) = true)
    (lLh_ : K.lookup fLh = some ⟨ocLh, odLh, .func (PySem.W.fnOf "_law_shuffled" "_law_shuffled" (defArgs sShuf) (defBody sShuf) (defScope sShuf) .none kVLh dcLh pmLh anLh cdLh ctLh), slLh⟩)
    (cLh_ : PySem.W.codeIn K cdLh "_law_shuffled" = true)
    (kLh_ : PySem.W.keepIn K (.ref fLh) = true)
    (lLM_ : K.lookup fLM = some ⟨ocLM, odLM, .func (PySem.W.fnOf "_law_made_right" "_law_made_right" (defArgs sLMade) (defBody sLMade) (defScope sLMade) .none kVLM dcLM pmLM anLM cdLM ctLM), slLM⟩)
    (cLM_ : PySem.W.codeIn K cdLM "_law_made_right" = true)
    (kLM_ : PySem.W.keepIn K (.ref fLM) = true)
    (lLa_ : K.lookup fLa = some ⟨ocLa, odLa, .func (PySem.W.fnOf "law" "law" (defArgs sLaw8) (defBody sLaw8) (defScope sLaw8) .none kVLa dcLa pmLa anLa cdLa ctLa), slLa⟩)
    (cLa_ : PySem.W.codeIn K cdLa "law" = true)
    (kLa_ : PySem.W.keepIn K (.ref fLa) = true)
    (lGI_ : K.lookup fGI = some ⟨ocGI, odGI, .func (PySem.W.fnOf "__init__" "Graph.__init__" (defArgs sGInit) (defBody sGInit) (defScope sGInit) .none kVGI dcGI pmGI anGI cdGI ctGI), slGI⟩)
    (cGI_ : PySem.W.codeIn K cdGI "Graph.__init__" = true)
    (kGI_ : PySem.W.keepIn K (.ref fGI) = true)
    (lGN_ : K.lookup fGN = some ⟨ocGN, odGN, .func (PySem.W.fnOf "needs" "Graph.needs" (defArgs sGNeeds) (defBody sGNeeds) (defScope sGNeeds) .none kVGN dcGN pmGN anGN cdGN ctGN), slGN⟩)
    (cGN_ : PySem.W.codeIn K cdGN "Graph.needs" = true)
    (kGN_ : PySem.W.keepIn K (.ref fGN) = true)
    (lGC_ : K.lookup fGC = some ⟨ocGC, odGC, .func (PySem.W.fnOf "check" "Graph.check" (defArgs sGCheck) (defBody sGCheck) (defScope sGCheck) .none kVGC dcGC pmGC anGC cdGC ctGC), slGC⟩)
    (cGC_ : PySem.W.codeIn K cdGC "Graph.check" = true)
    (kGC_ : PySem.W.keepIn K (.ref fGC) = true)
    (lGB_ : K.lookup fGB = some ⟨ocGB, odGB, .func (PySem.W.fnOf "below" "Graph.below" (defArgs sGBelow) (defBody sGBelow) (defScope sGBelow) .none kVGB dcGB pmGB anGB cdGB ctGB), slGB⟩)
    (cGB_ : PySem.W.codeIn K cdGB "Graph.below" = true)
    (kGB_ : PySem.W.keepIn K (.ref fGB) = true)
    (lGL_ : K.lookup fGL = some ⟨ocGL, odGL, .func (PySem.W.fnOf "__len__" "Graph.__len__" (defArgs sGLen) (defBody sGLen) (defScope sGLen) .none kVGL dcGL pmGL anGL cdGL ctGL), slGL⟩)
    (cGL_ : PySem.W.codeIn K cdGL "Graph.__len__" = true)
    (kGL_ : PySem.W.keepIn K (.ref fGL) = true)
    (lGQ_ : K.lookup fGQ = some ⟨ocGQ, odGQ, .func (PySem.W.fnOf "__eq__" "Graph.__eq__" (defArgs sGEq) (defBody sGEq) (defScope sGEq) .none kVGQ dcGQ pmGQ anGQ cdGQ ctGQ), slGQ⟩)
    (cGQ_ : PySem.W.codeIn K cdGQ "Graph.__eq__" = true)
    (kGQ_ : PySem.W.keepIn K (.ref fGQ) = true)
    (lGi_ : K.lookup fGi = some ⟨ocGi, odGi, .func (PySem.W.fnOf "__getitem__" "Graph.__getitem__" (defArgs sGItem) (defBody sGItem) (defScope sGItem) .none kVGi dcGi pmGi anGi cdGi ctGi), slGi⟩)
    (cGi_ : PySem.W.codeIn K cdGi "Graph.__getitem__" = true)
    (kGi_ : PySem.W.keepIn K (.ref fGi) = true)
    (lGy_ : K.lookup fGy = some ⟨ocGy, odGy, .func (PySem.W.fnOf "__iter__" "Graph.__iter__" (defArgs sGIter) (defBody sGIter) (defScope sGIter) .none kVGy dcGy pmGy anGy cdGy ctGy), slGy⟩)
    (cGy_ : PySem.W.codeIn K cdGy "Graph.__iter__" = true)
    (kGy_ : PySem.W.keepIn K (.ref fGy) = true)
    (lGs_ : K.lookup fGs = some ⟨ocGs, odGs, .func (PySem.W.fnOf "__str__" "Graph.__str__" (defArgs sGStr) (defBody sGStr) (defScope sGStr) .none kVGs dcGs pmGs anGs cdGs ctGs), slGs⟩)
    (cGs_ : PySem.W.codeIn K cdGs "Graph.__str__" = true)
    (kGs_ : PySem.W.keepIn K (.ref fGs) = true)
    (lOf_ : K.lookup fOf = some ⟨ocOf, odOf, .func (PySem.W.fnOf "of" "Graph.of" (defArgs sGOf) (defBody sGOf) (defScope sGOf) .none kVOf dcOf pmOf anOf cdOf ctOf), slOf⟩)
    (cOf_ : PySem.W.codeIn K cdOf "Graph.of" = true)
    (kOf_ : PySem.W.keepIn K (.ref fOf) = true)
    (lGp_ : K.lookup fGp = some ⟨ocGp, odGp, .func (PySem.W.fnOf "nodes" "Graph.nodes" (defArgs sGNodes) (defBody sGNodes) (defScope sGNodes) .none kVGp dcGp pmGp anGp cdGp ctGp), slGp⟩)
    (cGp_ : PySem.W.codeIn K cdGp "Graph.nodes" = true)
    (kGp_ : PySem.W.keepIn K (.ref fGp) = true)
    (lGf_ : K.lookup fGf = some ⟨ocGf, odGf, .func (PySem.W.fnOf "functions" "Graph.functions" (defArgs sGFuns) (defBody sGFuns) (defScope sGFuns) .none kVGf dcGf pmGf anGf cdGf ctGf), slGf⟩)
    (cGf_ : PySem.W.codeIn K cdGf "Graph.functions" = true)
    (kGf_ : PySem.W.keepIn K (.ref fGf) = true)
    (icA : PySem.W.findIn K (.ref CG) "__class__" = some (some (.builtin "object.__class__")))
    (icN : PySem.W.specialIn K (.builtin "object.__class__") "__get__" = some (some (.builtin "getset_descriptor.__get__")))
    (icT : PySem.W.takesIn K (.builtin "object.__class__") = some true)
    (icM : PySem.W.mroIn K CG (.type "object") = some true)
    (icE : PySem.W.kitOne K (.ref CG) (.ref CG) = some true)
    (hne : PySem.W.findIn K (.ref CG) "__ne__" = some (some (.builtin "object.__ne__")))
    (hfi : PySem.W.fnIn K fGi = true)
    (kt0 : PySem.W.kitOne K (.type "NoneType") (.ref CG) = some false)
    (kt1 : PySem.W.kitOne K (.type "tuple") (.ref CG) = some false)
    (kt2 : PySem.W.kitOne K (.type "list") (.ref CG) = some false)
    (kt3 : PySem.W.kitOne K (.type "int") (.ref CG) = some false)
    (kt4 : PySem.W.kitOne K (.type "str") (.ref CG) = some false)
    (nf0 : PySem.W.notFirst K CG (.type "NoneType") = true)
    (nf1 : PySem.W.notFirst K CG (.type "tuple") = true)
    (nf2 : PySem.W.notFirst K CG (.type "list") = true)
    (nf3 : PySem.W.notFirst K CG (.type "int") = true)
    (nf4 : PySem.W.notFirst K CG (.type "str") = true)
    (z0 : PySem.W.nsIn K mainGlobals "isinstance" = some none)
    (z1 : PySem.W.nsIn K mainGlobals "str" = some none)
    (z2 : PySem.W.nsIn K mainGlobals "tuple" = some none)
    (z3 : PySem.W.nsIn K mainGlobals "dict" = some none)
    (z4 : PySem.W.nsIn K mainGlobals "len" = some none)
    (z5 : PySem.W.nsIn K mainGlobals "all" = some none)
    (z6 : PySem.W.nsIn K mainGlobals "set" = some none)
    (z7 : PySem.W.nsIn K mainGlobals "range" = some none)
    (z8 : PySem.W.nsIn K mainGlobals "sorted" = some none)
    (z9 : PySem.W.nsIn K mainGlobals "list" = some none)
    (z10 : PySem.W.nsIn K mainGlobals "int" = some none)
    (z11 : PySem.W.nsIn K mainGlobals "abs" = some none)
    (z12 : PySem.W.nsIn K mainGlobals "max" = some none)
    (z13 : PySem.W.nsIn K mainGlobals "min" = some none)
    (z14 : PySem.W.nsIn K mainGlobals "repr" = some none)
    (z15 : PySem.W.nsIn K mainGlobals "zip" = some none)
    (z16 : PySem.W.nsIn K mainGlobals "enumerate" = some none)
    (z17 : PySem.W.nsIn K mainGlobals "bool" = some none)
    (z18 : PySem.W.nsIn K mainGlobals "iter" = some none)
    (z19 : PySem.W.nsIn K mainGlobals "sum" = some none) :
    ∃ fd : FuncData, (∀ (s : Shared) (v : Value), BindsTo s fd ⟨[v], []⟩ [("_law_script", v)]) ∧ ∀ base : Heap, K.In base → base.Ns mainGlobals mg → FnG P w K mg base (L2.CX P w) 20 fa fd ["_law_script"] (spLaw K) := by
  have e := hfa.symm.trans (PySem.W.mg_of X G aLa_)
  cases e
  subst eE eT eM
  have FWh := fun_mk (st := sWhole) lWh_ cWh_ kWh_
  have bWh := FWh.binds (ps := ["value"]) fun _ _ _ _ _ _ us hl => match us, hl with | [_], _ => rfl
  have gWh := PySem.W.mg_of X G aWh_
  have FBe := fun_mk (st := sBelow) lBe_ cBe_ kBe_
  have bBe := FBe.binds (ps := ["value", "limit"]) fun _ _ _ _ _ _ us hl => match us, hl with | [_, _], _ => rfl
  have gBe := PySem.W.mg_of X G aBe_
  have FNm := fun_mk (st := sName) lNm_ cNm_ kNm_
  have bNm := FNm.binds (ps := ["value"]) fun _ _ _ _ _ _ us hl => match us, hl with | [_], _ => rfl
  have gNm := PySem.W.mg_of X G aNm_
  have FKd := fun_mk (st := sKids) lKd_ cKd_ kKd_
  have bKd := FKd.binds (ps := ["node"]) fun _ _ _ _ _ _ us hl => match us, hl with | [_], _ => rfl
  have gKd := PySem.W.mg_of X G aKd_
  have FWk := fun_mk (st := sWithK) lWk_ cWk_ kWk_
  have bWk := FWk.binds (ps := ["node", "children"]) fun _ _ _ _ _ _ us hl => match us, hl with | [_, _], _ => rfl
  have gWk := PySem.W.mg_of X G aWk_
  have FRw := fun_mk (st := sRow) lRw_ cRw_ kRw_
  have bRw := FRw.binds (ps := ["value", "many"]) fun _ _ _ _ _ _ us hl => match us, hl with | [_, _], _ => rfl
  have gRw := PySem.W.mg_of X G aRw_
  have FPo := fun_mk (st := sPairOf) lPo_ cPo_ kPo_
  have bPo := FPo.binds (ps := ["value", "kind"]) fun _ _ _ _ _ _ us hl => match us, hl with | [_, _], _ => rfl
  have gPo := PySem.W.mg_of X G aPo_
  have FNd := fun_mk (st := sIsNd) lNd_ cNd_ kNd_
  have bNd := FNd.binds (ps := ["value", "nodes"]) fun _ _ _ _ _ _ us hl => match us, hl with | [_, _], _ => rfl
  have gNd := PySem.W.mg_of X G aNd_
  have FAn := fun_mk (st := sAreN) lAn_ cAn_ kAn_
  have bAn := FAn.binds (ps := ["values"]) fun _ _ _ _ _ _ us hl => match us, hl with | [_], _ => rfl
  have gAn := PySem.W.mg_of X G aAn_
  have FPr := fun_mk (st := sParents) lPr_ cPr_ kPr_
  have bPr := FPr.binds (ps := ["nodes"]) fun _ _ _ _ _ _ us hl => match us, hl with | [_], _ => rfl
  have gPr := PySem.W.mg_of X G aPr_
  have FNn := fun_mk (st := sInNeed) lNn_ cNn_ kNn_
  have bNn := FNn.binds (ps := ["parents", "variable", "function"]) fun _ _ _ _ _ _ us hl => match us, hl with | [_, _, _], _ => rfl
  have gNn := PySem.W.mg_of X G aNn_
  have FNe := fun_mk (st := sNeeds) lNe_ cNe_ kNe_
  have bNe := FNe.binds (ps := ["nodes"]) fun _ _ _ _ _ _ us hl => match us, hl with | [_], _ => rfl
  have gNe := PySem.W.mg_of X G aNe_
  have FSc := fun_mk (st := sScopes) lSc_ cSc_ kSc_
  have bSc := FSc.binds (ps := ["needs"]) fun _ _ _ _ _ _ us hl => match us, hl with | [_], _ => rfl
  have gSc := PySem.W.mg_of X G aSc_
  have FWa := fun_mk (st := sWalk) lWa_ cWa_ kWa_
  have bWa := FWa.binds (ps := ["inner", "root"]) fun _ _ _ _ _ _ us hl => match us, hl with | [_, _], _ => rfl
  have gWa := PySem.W.mg_of X G aWa_
  have FPt := fun_mk (st := sPointed) lPt_ cPt_ kPt_
  have bPt := FPt.binds (ps := ["node", "numbers"]) fun _ _ _ _ _ _ us hl => match us, hl with | [_, _], _ => rfl
  have gPt := PySem.W.mg_of X G aPt_
  have FNu := fun_mk (st := sNumbered) lNu_ cNu_ kNu_
  have bNu := FNu.binds (ps := ["nodes", "root"]) fun _ _ _ _ _ _ us hl => match us, hl with | [_, _], _ => rfl
  have gNu := PySem.W.mg_of X G aNu_
  have FCb := fun_mk (st := sCheckB) lCb_ cCb_ kCb_
  have bCb := FCb.binds (ps := ["value", "limit"]) fun _ _ _ _ _ _ us hl => match us, hl with | [_, _], _ => rfl
  have gCb := PySem.W.mg_of X G aCb_
  have FSt := fun_mk (st := sStream) lSt_ cSt_ kSt_
  have bSt := FSt.binds (ps := ["_law_script", "_law_at"]) fun _ _ _ _ _ _ us hl => match us, hl with | [_, _], _ => rfl
  have gSt := PySem.W.mg_of X G aSt_
  have FDr := fun_mk (st := sDraw) lDr_ cDr_ kDr_
  have bDr := FDr.binds (ps := ["_law_stream_here", "_law_high"]) fun _ _ _ _ _ _ us hl => match us, hl with | [_, _], _ => rfl
  have gDr := PySem.W.mg_of X G aDr_
  have FPk := fun_mk (st := sPick) lPk_ cPk_ kPk_
  have bPk := FPk.binds (ps := ["_law_stream_here", "_law_items"]) fun _ _ _ _ _ _ us hl => match us, hl with | [_, _], _ => rfl
  have gPk := PySem.W.mg_of X G aPk_
  have FMx := fun_mk (st := sMixed) lMx_ cMx_ kMx_
  have bMx := FMx.binds (ps := ["_law_stream_here", "_law_items"]) fun _ _ _ _ _ _ us hl => match us, hl with | [_, _], _ => rfl
  have gMx := PySem.W.mg_of X G aMx_
  have FIn := fun_mk (st := sInner) lIn_ cIn_ kIn_
  have bIn := FIn.binds (ps := ["_law_part_here"]) fun _ _ _ _ _ _ us hl => match us, hl with | [_], _ => rfl
  have gIn := PySem.W.mg_of X G aIn_
  have FDn := fun_mk (st := sDrawn) lDn_ cDn_ kDn_
  have bDn := FDn.binds (ps := ["_law_stream_here", "_law_deep", "_law_seen"]) fun _ _ _ _ _ _ us hl => match us, hl with | [_, _, _], _ => rfl
  have gDn := PySem.W.mg_of X G aDn_
  have FBk := fun_mk (st := sBlock) lBk_ cBk_ kBk_
  have bBk := FBk.binds (ps := ["_law_stream_here", "_law_deep", "_law_seen"]) fun _ _ _ _ _ _ us hl => match us, hl with | [_, _, _], _ => rfl
  have gBk := PySem.W.mg_of X G aBk_
  have FHd := fun_mk (st := sHeaded) lHd_ cHd_ kHd_
  have bHd := FHd.binds (ps := ["_law_stream_here", "_law_deep", "_law_seen", "_law_outside"]) fun _ _ _ _ _ _ us hl => match us, hl with | [_, _, _, _], _ => rfl
  have gHd := PySem.W.mg_of X G aHd_
  have FTe := fun_mk (st := sTerm) lTe_ cTe_ kTe_
  have bTe := FTe.binds (ps := ["_law_stream_here"]) fun _ _ _ _ _ _ us hl => match us, hl with | [_], _ => rfl
  have gTe := PySem.W.mg_of X G aTe_
  have FPa := fun_mk (st := sPart) lPa_ cPa_ kPa_
  have bPa := FPa.binds (ps := ["_law_root", "_law_path"]) fun _ _ _ _ _ _ us hl => match us, hl with | [_, _], _ => rfl
  have gPa := PySem.W.mg_of X G aPa_
  have FPs := fun_mk (st := sPaths) lPs_ cPs_ kPs_
  have bPs := FPs.binds (ps := ["_law_root"]) fun _ _ _ _ _ _ us hl => match us, hl with | [_], _ => rfl
  have gPs := PySem.W.mg_of X G aPs_
  have FBi := fun_mk (st := sBinder) lBi_ cBi_ kBi_
  have bBi := FBi.binds (ps := ["_law_root", "_law_path"]) fun _ _ _ _ _ _ us hl => match us, hl with | [_, _], _ => rfl
  have gBi := PySem.W.mg_of X G aBi_
  have FHe := fun_mk (st := sHead) lHe_ cHe_ kHe_
  have bHe := FHe.binds (ps := ["_law_root", "_law_path"]) fun _ _ _ _ _ _ us hl => match us, hl with | [_, _], _ => rfl
  have gHe := PySem.W.mg_of X G aHe_
  have FKe := fun_mk (st := sKey) lKe_ cKe_ kKe_
  have bKe := FKe.binds (ps := ["_law_root", "_law_path"]) fun _ _ _ _ _ _ us hl => match us, hl with | [_, _], _ => rfl
  have gKe := PySem.W.mg_of X G aKe_
  have FKs := fun_mk (st := sKeys) lKs_ cKs_ kKs_
  have bKs := FKs.binds (ps := ["_law_root"]) fun _ _ _ _ _ _ us hl => match us, hl with | [_], _ => rfl
  have gKs := PySem.W.mg_of X G aKs_
  have FGr := fun_mk (st := sGraph) lGr_ cGr_ kGr_
  have bGr := FGr.binds (ps := ["_law_root"]) fun _ _ _ _ _ _ us hl => match us, hl with | [_], _ => rfl
  have gGr := PySem.W.mg_of X G aGr_
  have FLB := fun_mk (st := sLBelow) lLB_ cLB_ kLB_
  have bLB := FLB.binds (ps := ["_law_node"]) fun _ _ _ _ _ _ us hl => match us, hl with | [_], _ => rfl
  have gLB := PySem.W.mg_of X G aLB_
  have FLW := fun_mk (st := sLWalked) lLW_ cLW_ kLW_
  have bLW := FLW.binds (ps := ["_law_nodes_here"]) fun _ _ _ _ _ _ us hl => match us, hl with | [_], _ => rfl
  have gLW := PySem.W.mg_of X G aLW_
  have FLn := fun_mk (st := sNodes) lLn_ cLn_ kLn_
  have bLn := FLn.binds (ps := ["_law_stream_here"]) fun _ _ _ _ _ _ us hl => match us, hl with | [_], _ => rfl
  have gLn := PySem.W.mg_of X G aLn_
  have FLh := fun_mk (st := sShuf) lLh_ cLh_ kLh_
  have bLh := FLh.binds (ps := ["_law_stream_here", "_law_nodes_here"]) fun _ _ _ _ _ _ us hl => match us, hl with | [_, _], _ => rfl
  have gLh := PySem.W.mg_of X G aLh_
  have FLM := fun_mk (st := sLMade) lLM_ cLM_ kLM_
  have bLM := FLM.binds (ps := ["_law_stream_here", "_law_nodes_here"]) fun _ _ _ _ _ _ us hl => match us, hl with | [_, _], _ => rfl
  have gLM := PySem.W.mg_of X G aLM_
  have FLa := fun_mk (st := sLaw8) lLa_ cLa_ kLa_
  have FGI := fun_mk (st := sGInit) lGI_ cGI_ kGI_
  have mGI : Meth K _ "__init__" fGI := ⟨aGI_, iGI_, kGI_⟩
  have FGN := fun_mk (st := sGNeeds) lGN_ cGN_ kGN_
  have bGN := FGN.binds (ps := ["self", "node"]) fun _ _ _ _ _ _ us hl => match us, hl with | [_, _], _ => rfl
  have mGN : Meth K _ "needs" fGN := ⟨aGN_, iGN_, kGN_⟩
  have FGC := fun_mk (st := sGCheck) lGC_ cGC_ kGC_
  have bGC := FGC.binds (ps := ["self", "node"]) fun _ _ _ _ _ _ us hl => match us, hl with | [_, _], _ => rfl
  have mGC : Meth K _ "check" fGC := ⟨aGC_, iGC_, kGC_⟩
  have FGB := fun_mk (st := sGBelow) lGB_ cGB_ kGB_
  have bGB := FGB.binds (ps := ["self", "starts"]) fun _ _ _ _ _ _ us hl => match us, hl with | [_, _], _ => rfl
  have mGB : Meth K _ "below" fGB := ⟨aGB_, iGB_, kGB_⟩
  have FGL := fun_mk (st := sGLen) lGL_ cGL_ kGL_
  have bGL := FGL.binds (ps := ["self"]) fun _ _ _ _ _ _ us hl => match us, hl with | [_], _ => rfl
  have mGL : Meth K _ "__len__" fGL := ⟨aGL_, iGL_, kGL_⟩
  have FGQ := fun_mk (st := sGEq) lGQ_ cGQ_ kGQ_
  have bGQ := FGQ.binds (ps := ["self", "other"]) fun _ _ _ _ _ _ us hl => match us, hl with | [_, _], _ => rfl
  have mGQ : Meth K _ "__eq__" fGQ := ⟨aGQ_, iGQ_, kGQ_⟩
  have FGi := fun_mk (st := sGItem) lGi_ cGi_ kGi_
  have bGi := FGi.binds (ps := ["self", "node"]) fun _ _ _ _ _ _ us hl => match us, hl with | [_, _], _ => rfl
  have mGi : Meth K _ "__getitem__" fGi := ⟨aGi_, iGi_, kGi_⟩
  have FGy := fun_mk (st := sGIter) lGy_ cGy_ kGy_
  have bGy := FGy.binds (ps := ["self"]) fun _ _ _ _ _ _ us hl => match us, hl with | [_], _ => rfl
  have mGy : Meth K _ "__iter__" fGy := ⟨aGy_, iGy_, kGy_⟩
  have FGs := fun_mk (st := sGStr) lGs_ cGs_ kGs_
  have bGs := FGs.binds (ps := ["self"]) fun _ _ _ _ _ _ us hl => match us, hl with | [_], _ => rfl
  have mGs : Meth K _ "__str__" fGs := ⟨aGs_, iGs_, kGs_⟩
  have FOf := fun_mk (st := sGOf) lOf_ cOf_ kOf_
  have bOf := FOf.binds (ps := ["cls", "nodes"]) fun _ _ _ _ _ _ us hl => match us, hl with | [_, _], _ => rfl
  have FGp := fun_mk (st := sGNodes) lGp_ cGp_ kGp_
  have bGp := FGp.binds (ps := ["self"]) fun _ _ _ _ _ _ us hl => match us, hl with | [_], _ => rfl
  have FGf := fun_mk (st := sGFuns) lGf_ cGf_ kGf_
  have bGf := FGf.binds (ps := ["self"]) fun _ _ _ _ _ _ us hl => match us, hl with | [_], _ => rfl
  have clG : Cls K CG := ⟨pgG, hdG, poG, saG⟩
  have gcG := PySem.W.mg_of X G cCG
  have mkG : Mk K CG fGI := ⟨mkG, aGI_, iGI_, kcG⟩
  have B : Bt mg := { isi := PySem.W.mg_none_of X G z0, str := PySem.W.mg_none_of X G z1, tuple := PySem.W.mg_none_of X G z2, dict := PySem.W.mg_none_of X G z3, len := PySem.W.mg_none_of X G z4, all := PySem.W.mg_none_of X G z5, set := PySem.W.mg_none_of X G z6, range := PySem.W.mg_none_of X G z7, sorted := PySem.W.mg_none_of X G z8, list := PySem.W.mg_none_of X G z9, int := PySem.W.mg_none_of X G z10, abs := PySem.W.mg_none_of X G z11, max := PySem.W.mg_none_of X G z12, min := PySem.W.mg_none_of X G z13, repr := PySem.W.mg_none_of X G z14, zip := PySem.W.mg_none_of X G z15, enum := PySem.W.mg_none_of X G z16 }
  have z_bool := PySem.W.mg_none_of X G z17
  have z_iter := PySem.W.mg_none_of X G z18
  have z_sum := PySem.W.mg_none_of X G z19
  have U : Tops K mg := { letters := ⟨_, PySem.W.mg_of X G nE⟩, terms := ⟨_, PySem.W.mg_of X G nT⟩, nodes := ⟨_, PySem.W.mg_of X G nM⟩, sw := ⟨aS, PySem.W.mg_of X G aSW, fun H => .inr ⟨_, _, _, lSW, rfl, rfl, (by show 3 ≤ sizeLine; decide), .cons ⟨_, rfl⟩ (.cons ⟨_, rfl⟩ (.cons ⟨_, rfl⟩ .nil))⟩⟩ }
  have Bi' : Bi mg := ⟨B.isi, B.int, z_bool, B.tuple, B.len, B.all⟩
  have N : Gn K mg fWh fBe fNm fKd fWk fRw fPo fNd fAn _ _ _ _ _ _ _ _ _ := ⟨FWh, bWh, gWh, FBe, bBe, gBe, FNm, bNm, gNm, FKd, bKd, gKd, FWk, bWk, gWk, FRw, bRw, gRw, FPo, bPo, gPo, FNd, bNd, gNd, FAn, bAn, gAn⟩
  have Dg : Gd K mg fPr fNn fNe fSc fWa fPt fNu _ _ _ _ _ _ _ := ⟨FPr, bPr, gPr, FNn, bNn, gNn, FNe, bNe, gNe, FSc, bSc, gSc, FWa, bWa, gWa, FPt, bPt, gPt, FNu, bNu, gNu⟩
  have L : Gr K mg CG := ⟨clG, naG0, naG1, naG2, gcG⟩
  have T : Lp K mg fIn fPa _ _ := ⟨FIn, bIn, gIn, FPa, bPa, gPa⟩
  have Lw' : Lw K mg fSt fDr fPk fMx _ _ _ _ := ⟨FSt, bSt, gSt, FDr, bDr, gDr, FPk, bPk, gPk, FMx, bMx, gMx⟩
  have Y : Ld K mg fDn fBk fHd _ _ _ := ⟨FDn, bDn, gDn, FBk, bBk, gBk, FHd, bHd, gHd⟩
  have S' : Lte K mg fPs fTe _ _ := ⟨FPs, bPs, gPs, FTe, bTe, gTe⟩
  have Zh : Lh K mg fBi fHe fKe _ _ _ := ⟨FBi, bBi, gBi, FHe, bHe, gHe, FKe, bKe, gKe⟩
  have G' : Lg K mg fKs fGr _ _ := ⟨FKs, bKs, gKs, FGr, bGr, gGr⟩
  have M : Mc K mg CG fGC fCb fGB _ _ _ := ⟨⟨FGC, mGC, bGC⟩, FCb, bCb, gCb, ⟨FGB, mGB, bGB⟩⟩
  have Ic : C8.InsC K CG := ⟨clG, icA, icN, icT, icM, icE⟩
  exact ⟨PySem.W.fnOf "law" "law" (defArgs sLaw8) (defBody sLaw8) (defScope sLaw8) .none kVLa dcLa pmLa anLa cdLa ctLa, fun s v => .of_eq rfl, fun base _ _ => by
    have UNo : Up P w K mg base CG "nodes" 1 (spGNodes K CG) := ⟨pGp, fGp, _, ⟨aGp_, qGp_, wGp_, ⟨_, rGp_⟩⟩, bGp, ok_gNodes FGp L⟩
    have UFu : Up P w K mg base CG "functions" 1 (spGFuns K CG) := ⟨pGf, fGf, _, ⟨aGf_, qGf_, wGf_, ⟨_, rGf_⟩⟩, bGf, ok_gFuns B FGf L⟩
    have UEq : Um P w K mg base CG "__eq__" ["self", "other"] 1 (spGEqT K CG) := ⟨fGQ, _, mGQ, bGQ, ok_gEqT B L Ic FGQ⟩
    have ULe : Um P w K mg base CG "__len__" ["self"] 1 (spGLen K CG) := ⟨fGL, _, mGL, bGL, ok_gLen B FGL L⟩
    have UIr : Uy P w K mg base CG 1 (spGIter K CG) := ⟨fGy, mGy, ok_gIter z_iter L FGy bGy⟩
    have USt : Um P w K mg base CG "__str__" ["self"] 3 (spGStr K CG) := ⟨fGs, _, mGs, bGs, ok_gStr B L UFu FGs⟩
    have UOf : Uc P w K mg base CG "Graph" "of" 8 (spGOf K CG) := ⟨fOf, pOf, .type "type", gcG, ⟨rdG, gaG⟩, ⟨dOf_, ⟨_, rOf_⟩, hOf_⟩, ((ok_gOf N Dg U Bi' B L FOf FGI mkG).raw bOf .nil).imp fun vs H Q E h => by rw [List.append_nil]; exact h⟩
    have UMk : Ui P w K mg base CG "Graph" 6 (spGMake K CG) := ⟨fGI, gcG, mkG, ok_gMake N Dg U Bi' B L FGI⟩
    have USr : Uf P w K mg base "_law_stream" ["_law_script", "_law_at"] 1 (spStream K) := ⟨fSt, _, gSt, kSt_, bSt, ok_stream FSt B⟩
    have ULn : Uf P w K mg base "_law_nodes" ["_law_stream_here"] 19 (spNodes K) := ⟨fLn, _, gLn, kLn_, bLn, ok_nodes Zh G' S' T Y Lw' B FLn⟩
    have USh : Uf P w K mg base "_law_shuffled" ["_law_stream_here", "_law_nodes_here"] 3 (spShuf K) := ⟨fLh, _, gLh, kLh_, bLh, ok_shuf Lw' B FLh⟩
    have UWa : Uf P w K mg base "_law_walked" ["_law_nodes_here"] 2 (spLWalked K) := ⟨fLW, _, gLW, kLW_, bLW, ok_lWalked B FLB bLB gLB FLW⟩
    have UIt0 : FnOk P w K mg base CX0 5 fGi _ ["self", "node"] (spGItem K CG) := ok_gItem N Bi' B L M FGi
    have UMr : Uf P w K mg base "_law_made_right" ["_law_stream_here", "_law_nodes_here"] 9 (spLMade K CG) := ⟨fLM, _, gLM, kLM_, bLM, ok_lMade B L Ic hne UNo UFu UEq ULe ⟨fGi, _, mGi, bGi, UIt0⟩ hfi UIr USt UOf USh UWa FLM⟩
    exact ok_law FLa B L Ic (fun t ht => by simp only [List.mem_cons, List.not_mem_nil, or_false] at ht; rcases ht with rfl | rfl | rfl | rfl | rfl <;> assumption) (fun t ht => by simp only [List.mem_cons, List.not_mem_nil, or_false] at ht; rcases ht with rfl | rfl | rfl | rfl | rfl <;> assumption) UNo UFu UEq USt UOf UMk USr ULn UMr⟩
end Sl

set_option Elab.async false
set_option linter.all false
set_option maxRecDepth 100000
open PySem PySem.W PyProof.Rows
set_option maxHeartbeats 0 in
theorem PySem.Challenge.cw_sharedlets_k08_graphs_made_holds : PySem.Challenge.rw_sharedlets_k08_graphs_made.Holds := by
  w_on; o_law; k_head; (case hw => w_witness2)
  k_fill
  refine Sl.walkG (l := PySem.Challenge.rw_sharedlets_k08_graphs_made) (n := 63) (k := 20) (x := "_law_script") (sp := fun w => Sl.spLaw _) rfl (by decide) rfl ⟨rfl, by decide, by decide⟩ (fun w h Y => PySem.W.kIn_of Y) ?F (fun w G a ns hl _ hS => ⟨a, ns, rfl, hS, by omega, fun _ => rfl⟩)
  case F =>
    intro w mg fa h KX G hmg
    refine' Sl.all_mk KX G hmg ?nE ?eE ?nT ?eT ?nM ?eM ?aSW ?lSW ?aWh_ ?aBe_ ?aNm_ ?aKd_ ?aWk_ ?aRw_ ?aPo_ ?aNd_ ?aAn_ ?aPr_ ?aNn_ ?aNe_ ?aSc_ ?aWa_ ?aPt_ ?aNu_ ?aCb_ ?aSt_ ?aDr_ ?aPk_ ?aMx_ ?aIn_ ?aDn_ ?aBk_ ?aHd_ ?aTe_ ?aPa_ ?aPs_ ?aBi_ ?aHe_ ?aKe_ ?aKs_ ?aGr_ ?aLB_ ?aLW_ ?aLn_ ?aLh_ ?aLM_ ?aLa_ ?cCG ?aGI_ ?iGI_ ?aGN_ ?iGN_ ?aGC_ ?iGC_ ?aGB_ ?iGB_ ?aGL_ ?iGL_ ?aGQ_ ?iGQ_ ?aGi_ ?iGi_ ?aGy_ ?iGy_ ?aGs_ ?iGs_ ?pgG ?hdG ?poG ?saG ?mkG ?kcG ?naG0 ?naG1 ?naG2 ?aOf_ ?rOf_ ?hOf_ ?dOf_ ?rdG ?gaG ?aGp_ ?qGp_ ?wGp_ ?rGp_ ?aGf_ ?qGf_ ?wGf_ ?rGf_ ?lWh_ ?cWh_ ?kWh_ ?lBe_ ?cBe_ ?kBe_ ?lNm_ ?cNm_ ?kNm_ ?lKd_ ?cKd_ ?kKd_ ?lWk_ ?cWk_ ?kWk_ ?lRw_ ?cRw_ ?kRw_ ?lPo_ ?cPo_ ?kPo_ ?lNd_ ?cNd_ ?kNd_ ?lAn_ ?cAn_ ?kAn_ ?lPr_ ?cPr_ ?kPr_ ?lNn_ ?cNn_ ?kNn_ ?lNe_ ?cNe_ ?kNe_ ?lSc_ ?cSc_ ?kSc_ ?lWa_ ?cWa_ ?kWa_ ?lPt_ ?cPt_ ?kPt_ ?lNu_ ?cNu_ ?kNu_ ?lCb_ ?cCb_ ?kCb_ ?lSt_ ?cSt_ ?kSt_ ?lDr_ ?cDr_ ?kDr_ ?lPk_ ?cPk_ ?kPk_ ?lMx_ ?cMx_ ?kMx_ ?lIn_ ?cIn_ ?kIn_ ?lDn_ ?cDn_ ?kDn_ ?lBk_ ?cBk_ ?kBk_ ?lHd_ ?cHd_ ?kHd_ ?lTe_ ?cTe_ ?kTe_ ?lPa_ ?cPa_ ?kPa_ ?lPs_ ?cPs_ ?kPs_ ?lBi_ ?cBi_ ?kBi_ ?lHe_ ?cHe_ ?kHe_ ?lKe_ ?cKe_ ?kKe_ ?lKs_ ?cKs_ ?kKs_ ?lGr_ ?cGr_ ?kGr_ ?lLB_ ?cLB_ ?kLB_ ?lLW_ ?cLW_ ?kLW_ ?lLn_ ?cLn_ ?kLn_ ?lLh_ ?cLh_ ?kLh_ ?lLM_ ?cLM_ ?kLM_ ?lLa_ ?cLa_ ?kLa_ ?lGI_ ?cGI_ ?kGI_ ?lGN_ ?cGN_ ?kGN_ ?lGC_ ?cGC_ ?kGC_ ?lGB_ ?cGB_ ?kGB_ ?lGL_ ?cGL_ ?kGL_ ?lGQ_ ?cGQ_ ?kGQ_ ?lGi_ ?cGi_ ?kGi_ ?lGy_ ?cGy_ ?kGy_ ?lGs_ ?cGs_ ?kGs_ ?lOf_ ?cOf_ ?kOf_ ?lGp_ ?cGp_ ?kGp_ ?lGf_ ?cGf_ ?kGf_ ?icA ?icN ?icT ?icM ?icE ?hne ?hfi ?kt0 ?kt1 ?kt2 ?kt3 ?kt4 ?nf0 ?nf1 ?nf2 ?nf3 ?nf4 ?z0 ?z1 ?z2 ?z3 ?z4 ?z5 ?z6 ?z7 ?z8 ?z9 ?z10 ?z11 ?z12 ?z13 ?z14 ?z15 ?z16 ?z17 ?z18 ?z19
    (case nE => k_is)
    (case eE => rfl)
    (case nT => k_is)
    (case eT => rfl)
    (case nM => k_is)
    (case eM => rfl)
    (case aSW => k_is)
    (case lSW => k_is)
    (case aWh_ => k_is)
    (case aBe_ => k_is)
    (case aNm_ => k_is)
    (case aKd_ => k_is)
    (case aWk_ => k_is)
    (case aRw_ => k_is)
    (case aPo_ => k_is)
    (case aNd_ => k_is)
    (case aAn_ => k_is)
    (case aPr_ => k_is)
    (case aNn_ => k_is)
    (case aNe_ => k_is)
    (case aSc_ => k_is)
    (case aWa_ => k_is)
    (case aPt_ => k_is)
    (case aNu_ => k_is)
    (case aCb_ => k_is)
    (case aSt_ => k_is)
    (case aDr_ => k_is)
    (case aPk_ => k_is)
    (case aMx_ => k_is)
    (case aIn_ => k_is)
    (case aDn_ => k_is)
    (case aBk_ => k_is)
    (case aHd_ => k_is)
    (case aTe_ => k_is)
    (case aPa_ => k_is)
    (case aPs_ => k_is)
    (case aBi_ => k_is)
    (case aHe_ => k_is)
    (case aKe_ => k_is)
    (case aKs_ => k_is)
    (case aGr_ => k_is)
    (case aLB_ => k_is)
    (case aLW_ => k_is)
    (case aLn_ => k_is)
    (case aLh_ => k_is)
    (case aLM_ => k_is)
    (case aLa_ => k_is)
    (case cCG => k_is)
    (case aGI_ => k_is)
    (case iGI_ => k_is)
    (case aGN_ => k_is)
    (case iGN_ => k_is)
    (case aGC_ => k_is)
    (case iGC_ => k_is)
    (case aGB_ => k_is)
    (case iGB_ => k_is)
    (case aGL_ => k_is)
    (case iGL_ => k_is)
    (case aGQ_ => k_is)
    (case iGQ_ => k_is)
    (case aGi_ => k_is)
    (case iGi_ => k_is)
    (case aGy_ => k_is)
    (case iGy_ => k_is)
    (case aGs_ => k_is)
    (case iGs_ => k_is)
    (case pgG => k_is)
    (case hdG => k_is)
    (case poG => k_is)
    (case saG => k_is)
    (case mkG => k_is)
    (case kcG => k_is)
    (case naG0 => k_is)
    (case naG1 => k_is)
    (case naG2 => k_is)
    (case aOf_ => k_is)
    (case rOf_ => k_is)
    (case hOf_ => k_is)
    (case dOf_ => k_is)
    (case rdG => k_is)
    (case gaG => k_is)
    (case aGp_ => k_is)
    (case qGp_ => k_is)
    (case wGp_ => k_is)
    (case rGp_ => k_is)
    (case aGf_ => k_is)
    (case qGf_ => k_is)
    (case wGf_ => k_is)
    (case rGf_ => k_is)
    (case lWh_ => k_is)
    (case cWh_ => k_is)
    (case kWh_ => k_is)
    (case lBe_ => k_is)
    (case cBe_ => k_is)
    (case kBe_ => k_is)
    (case lNm_ => k_is)
    (case cNm_ => k_is)
    (case kNm_ => k_is)
    (case lKd_ => k_is)
    (case cKd_ => k_is)
    (case kKd_ => k_is)
    (case lWk_ => k_is)
    (case cWk_ => k_is)
    (case kWk_ => k_is)
    (case lRw_ => k_is)
    (case cRw_ => k_is)
    (case kRw_ => k_is)
    (case lPo_ => k_is)
    (case cPo_ => k_is)
    (case kPo_ => k_is)
    (case lNd_ => k_is)
    (case cNd_ => k_is)
    (case kNd_ => k_is)
    (case lAn_ => k_is)
    (case cAn_ => k_is)
    (case kAn_ => k_is)
    (case lPr_ => k_is)
    (case cPr_ => k_is)
    (case kPr_ => k_is)
    (case lNn_ => k_is)
    (case cNn_ => k_is)
    (case kNn_ => k_is)
    (case lNe_ => k_is)
    (case cNe_ => k_is)
    (case kNe_ => k_is)
    (case lSc_ => k_is)
    (case cSc_ => k_is)
    (case kSc_ => k_is)
    (case lWa_ => k_is)
    (case cWa_ => k_is)
    (case kWa_ => k_is)
    (case lPt_ => k_is)
    (case cPt_ => k_is)
    (case kPt_ => k_is)
    (case lNu_ => k_is)
    (case cNu_ => k_is)
    (case kNu_ => k_is)
    (case lCb_ => k_is)
    (case cCb_ => k_is)
    (case kCb_ => k_is)
    (case lSt_ => k_is)
    (case cSt_ => k_is)
    (case kSt_ => k_is)
    (case lDr_ => k_is)
    (case cDr_ => k_is)
    (case kDr_ => k_is)
    (case lPk_ => k_is)
    (case cPk_ => k_is)
    (case kPk_ => k_is)
    (case lMx_ => k_is)
    (case cMx_ => k_is)
    (case kMx_ => k_is)
    (case lIn_ => k_is)
    (case cIn_ => k_is)
    (case kIn_ => k_is)
    (case lDn_ => k_is)
    (case cDn_ => k_is)
    (case kDn_ => k_is)
    (case lBk_ => k_is)
    (case cBk_ => k_is)
    (case kBk_ => k_is)
    (case lHd_ => k_is)
    (case cHd_ => k_is)
    (case kHd_ => k_is)
    (case lTe_ => k_is)
    (case cTe_ => k_is)
    (case kTe_ => k_is)
    (case lPa_ => k_is)
    (case cPa_ => k_is)
    (case kPa_ => k_is)
    (case lPs_ => k_is)
    (case cPs_ => k_is)
    (case kPs_ => k_is)
    (case lBi_ => k_is)
    (case cBi_ => k_is)
    (case kBi_ => k_is)
    (case lHe_ => k_is)
    (case cHe_ => k_is)
    (case kHe_ => k_is)
    (case lKe_ => k_is)
    (case cKe_ => k_is)
    (case kKe_ => k_is)
    (case lKs_ => k_is)
    (case cKs_ => k_is)
    (case kKs_ => k_is)
    (case lGr_ => k_is)
    (case cGr_ => k_is)
    (case kGr_ => k_is)
    (case lLB_ => k_is)
    (case cLB_ => k_is)
    (case kLB_ => k_is)
    (case lLW_ => k_is)
    (case cLW_ => k_is)
    (case kLW_ => k_is)
    (case lLn_ => k_is)
    (case cLn_ => k_is)
    (case kLn_ => k_is)
    (case lLh_ => k_is)
    (case cLh_ => k_is)
    (case kLh_ => k_is)
    (case lLM_ => k_is)
    (case cLM_ => k_is)
    (case kLM_ => k_is)
    (case lLa_ => k_is)
    (case cLa_ => k_is)
    (case kLa_ => k_is)
    (case lGI_ => k_is)
    (case cGI_ => k_is)
    (case kGI_ => k_is)
    (case lGN_ => k_is)
    (case cGN_ => k_is)
    (case kGN_ => k_is)
    (case lGC_ => k_is)
    (case cGC_ => k_is)
    (case kGC_ => k_is)
    (case lGB_ => k_is)
    (case cGB_ => k_is)
    (case kGB_ => k_is)
    (case lGL_ => k_is)
    (case cGL_ => k_is)
    (case kGL_ => k_is)
    (case lGQ_ => k_is)
    (case cGQ_ => k_is)
    (case kGQ_ => k_is)
    (case lGi_ => k_is)
    (case cGi_ => k_is)
    (case kGi_ => k_is)
    (case lGy_ => k_is)
    (case cGy_ => k_is)
    (case kGy_ => k_is)
    (case lGs_ => k_is)
    (case cGs_ => k_is)
    (case kGs_ => k_is)
    (case lOf_ => k_is)
    (case cOf_ => k_is)
    (case kOf_ => k_is)
    (case lGp_ => k_is)
    (case cGp_ => k_is)
    (case kGp_ => k_is)
    (case lGf_ => k_is)
    (case cGf_ => k_is)
    (case kGf_ => k_is)
    (case icA => k_is)
    (case icN => k_is)
    (case icT => k_is)
    (case icM => k_is)
    (case icE => rfl)
    (case hne => k_is)
    (case hfi => k_is)
    (case kt0 => first | rfl | k_is)
    (case kt1 => first | rfl | k_is)
    (case kt2 => first | rfl | k_is)
    (case kt3 => first | rfl | k_is)
    (case kt4 => first | rfl | k_is)
    (case nf0 => first | k_is | rfl | kernel_rfl)
    (case nf1 => first | k_is | rfl | kernel_rfl)
    (case nf2 => first | k_is | rfl | kernel_rfl)
    (case nf3 => first | k_is | rfl | kernel_rfl)
    (case nf4 => first | k_is | rfl | kernel_rfl)
    (case z0 => k_is)
    (case z1 => k_is)
    (case z2 => k_is)
    (case z3 => k_is)
    (case z4 => k_is)
    (case z5 => k_is)
    (case z6 => k_is)
    (case z7 => k_is)
    (case z8 => k_is)
    (case z9 => k_is)
    (case z10 => k_is)
    (case z11 => k_is)
    (case z12 => k_is)
    (case z13 => k_is)
    (case z14 => k_is)
    (case z15 => k_is)
    (case z16 => k_is)
    (case z17 => k_is)
    (case z18 => k_is)
    (case z19 => k_is)
