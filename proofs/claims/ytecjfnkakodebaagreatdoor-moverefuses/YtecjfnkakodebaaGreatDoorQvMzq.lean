/- Copy, Fill, Clear: all they answer. -/
import Derived.Test.YtecjfnkakodebaaGreatDoorQvMzp
namespace Go.Proofs.YtecjfnkakodebaaGreatDoor
open Go.RowKit Go.Maps
structure FiR (A:Ar4) (f:Int×Int) (L:List Cc) (w w':World) (v:Value):Prop where
 kp:Kp w w' Nul
 bad:¬ Ar4.ok A=true→v=.tuple #[.pointer none,.int .i64 1]
 off:Ar4.ok A=true → ¬ vC f.1 f.2=true→v=.tuple #[.pointer none,.int .i64 20]
 ok:Ar4.ok A=true→vC f.1 f.2=true→∃ u M0,Rd L f u∧CpV w w' L M0 (if u.k=0 then [] else flY f.1 f.2 A.1.1 A.1.2 A.2.1 A.2.2 u) A.1.1 A.1.2 A.2.1 A.2.2 v
theorem rd_gd {L:List Cc} {p:Int×Int} {u:Ct} (hL:Ok17 L) (h:Rd L p u) (hk:u.k≠0):Gd u:=by
 rcases h with h|⟨rfl,_⟩
 ·exact hL.gd _ h
 ·exact absurd rfl hk
theorem move_fill_at (g:Nat) (A:Ar4) (f:Int×Int) (L:List Cc) (w:World) (hg:GI 0 w g L) (hL:Ok17 L) (hv:VS w) :
  Calls Tryz.prog 22 #[.pointer (some ⟨g,0,none⟩),.agg #[.int .i64 f.1,.int .i64 f.2],.agg #[.int .i64 A.1.1,.int .i64 A.1.2,.int .i64 A.2.1,.int .i64 A.2.2]] w fun e w'=>∃ v,e=.returned v∧FiR A f L w w' v:=by
 by_cases hA:Ar4.ok A=true
 ·by_cases hf:vC f.1 f.2=true
  ·have hf':=(vC_iff _ _).1 hf
   obtain ⟨u,hr,hx,ho,hget⟩:=get_any g L w hg hL f.1 f.2 (by unfold I64;omega) (by unfold I64;omega)
   refine (fill_core g L _ u A.1.1 A.1.2 A.2.1 A.2.2 f.1 f.2 w hf hA (rd_gd hL hr) rfl
    (fun w=>(pValidArea_any A.1.1 A.1.2 A.2.1 A.2.2 w).mono fun e w' q=>⟨by rw [q.1];exact congrArg (fun b=>Ending.returned (.bool b)) (show Ar4.ok A=true from hA),Kp.of_gr q.2⟩)
    (fun w=>(pValid_at f.1 f.2 w).mono fun e w' q=>⟨by rw [q.1,hf],by rw [q.2];exact (Kp.refl w Nul).alloc _⟩)
    (fun wq k=>without_at g L _ _ _ _ wq (hg.kp k) hL (hv.kp k)) hget
    (fun G F g2 c s sl M wq k h1 h2 h3 h4 h5 h6=>putCopy_at G g2 c s f.1 f.2 u sl F M wq h1 h2 h3 h4 h5 hf h6 (hv.kp k))).mono ?_
   rintro e w' ⟨v,M0,rfl,h⟩
   exact ⟨v,rfl,h.kp,fun q=>absurd hA q,fun _ q=>absurd hf q,fun _ _=>⟨u,M0,hr,h⟩⟩
  ·have h:=fill_bad g A f w (fun _=>hf)
   rw [if_pos hA] at h
   refine h.mono ?_
   rintro e w' ⟨rfl,k⟩
   exact ⟨_,rfl,k,fun q=>absurd hA q,fun _ _=>rfl,fun _ q=>absurd q hf⟩
 ·have h:=fill_bad g A f w (fun q=>absurd q hA)
  rw [if_neg hA] at h
  refine h.mono ?_
  rintro e w' ⟨rfl,k⟩
  exact ⟨_,rfl,k,fun _=>rfl,fun q=>absurd q hA,fun q=>absurd q hA⟩
end Go.Proofs.YtecjfnkakodebaaGreatDoor
