import Derived.Test.YtkkdfgnnlpohlaaGreatDoorPkzh
namespace Go.Proofs.YtkkdfgnnlpohlaaGreatDoor
set_option maxRecDepth 20000
set_option linter.unusedVariables false
set_option linter.unusedSimpArgs false
set_option maxHeartbeats 4000000
open Go.RowKit Go.Proofs.Tryz
variable {W X Y w w' w0 wr : World} {A B at_ b b2 base' c cap e f g go gs hi i j k lo m n s u val z : Nat} {E G I J K L M N O u0 u1 u2 v0 v1 v2 v3 v4 v5 v6 x y : Value} {o : Oper} {Q : Exit → Act → World → Prop} {cs tmps : Array Value} {t : TypeId} {p : Addr} {l : List Nat} {bvs xs : List Value} {a : List UInt8} {first ok : Bool}
theorem FQ(a:OA)(cap k:Nat)(us:List OpV)(w:World)(aj:0<k)(hk:kVo k us us.length≤4503599627370000)(hl:us.length≤4503599627370000)(hr:lI w a (muV k us)):
  Calls prog 12 #[.slice a us.length cap,.int .i64 (k:Int)] w fun e w'=>e= .returned (.int .i64 ((kVo k us us.length:Nat):Int))∧Below w.heap.size w w':=by
 go_enter func12,ntmps12;go_wp2;go_loopw [1,5] (fun s i wr=>∃j:Nat,j≤us.length∧i= .int .i64 j∧s= .int .i64 ((kVo k us j:Nat):Int)∧Below w.heap.size w wr) (fun _ i _=>us.length-(intOf i).toNat)
 case atStart=>exact⟨0,O4 _,rfl,by cases us<;>rfl,OX _ _⟩
 case round=>
  obtain⟨j,hj,rfl,rfl,N⟩:=hrel;by_cases ae:j<us.length
  ·have ak:=jR k us;have al:=hr.below N;obtain⟨b,z,rfl,hc⟩:=al (by omega);obtain⟨ai,ci,M,A,E,G,I⟩:=hc j (by omega);have hu:(muV k us)[j]'(by omega)=GA (kVo k us j) us[j]:=by
    have:=DM k us j ae;rw[OZ (by omega),OY] at this;exact this
   rw[hu] at M A E G I;unfold GA at M A E G I;simp only[iY] at M A E G I;have Q:=a8 (nO k us j ae);have ab:=I8 k us (j+1) (by omega);rw[Q.out] at ab;have hK:=O0 ab hk;have ah:0<kVo k us j:=Pb aj (EP k us j hj);clear hu hc hr ab ak;generalize kVo k us j=K at M A E G I Q hK ah⊢;generalize us[j].2.2.2.length=L at G I Q hK;have U:=a8 N;have aq:((K:Int) !=(K:Int))=false:=(by simp);have Z:=a8 (fun W=>lS (K+1) W (by omega) (by omega));have aa:=a8 (fun W=>lS (K+2) W (by omega) (by omega));rw[show((K+1:Nat):Int)=(K:Int)+1 from by omega] at Z;rw[show((K+2:Nat):Int)=(K:Int)+1+1 from by omega] at aa;generalize mtx (K+1)=t1 at A Z;generalize mtx (K+2)=V at E aa;have am:(t1.toList==t1.toList)=true:=(by simp);have an:(V.toList==V.toList)=true:=(by simp);have af:=a8 I;clear N I hk;go_wp2;go_region_with (go_at_call 37;refine(Z.out _).mono ?_;rintro e Y ⟨rfl,J⟩;have d0:Y.cell? ⟨b,z+j*4+1,none⟩=some (.string t1):=(J.cell (p:=⟨b,z+j*4+1,none⟩) (dG A)).trans A)
   all_goals
    have d2:Y.cell? ⟨b,z+j*4+2,none⟩=some (.string V):=(J.cell (p:=⟨b,z+j*4+2,none⟩) (dG E)).trans E;have d3:Y.cell? ⟨b,z+j*4+3,none⟩=some (.slice ai L ci):=(J.cell (p:=⟨b,z+j*4+3,none⟩) (dG G)).trans G;have ac:=a8 (show Below wr.heap.size wr Y from(OX wr.heap.size wr).drew.trans J);clear M A E G d0 J;go_wp2;go_region_with (go_at_call 37;refine(aa.out _).mono ?_;rintro e O ⟨rfl,R⟩;have x2:O.cell? ⟨b,z+j*4+2,none⟩=some (.string V):=(R.cell (p:=⟨b,z+j*4+2,none⟩) (dG d2)).trans d2)
    all_goals
     have x3:O.cell? ⟨b,z+j*4+3,none⟩=some (.slice ai L ci):=(R.cell (p:=⟨b,z+j*4+3,none⟩) (dG d3)).trans d3;have ad:=a8 (show Below wr.heap.size wr O from ac.drew.trans (R.mono ac.size));have ag:=a8 (show Below w.heap.size w O from U.trans (ad.mono U.size));have CH:=a8 (vE ai ci (K+3) L O (by omega) (by omega) (af.below ad));rw[show((K+3:Nat):Int)=(K:Int)+3 from by omega] at CH;generalize hP:K+3+L=P at CH;have HP:=a8 hP;have ao:¬(P:Int)<0:=(by omega);have ap:P≤4503599627370000:=(by omega);clear d2 d3 x2 R hP;go_wp2_with fail;have e4:((K:Int)+1+1+1)=(K:Int)+3:=by omega
     try rw[e4]
     clear e4;refine CH.mono ?_;rintro e w5 ⟨rfl,rfl⟩;go_wp2;go_roundw
     case rel=>exact⟨j+1,by omega,by go_num,fM (by rw[Q.out];have:=HP.out;omega),ag⟩
     case measure=>simp[intOf];omega
  ·obtain rfl:j=us.length:=(by omega);have U:=a8 N;clear N;go_wp2;go_ret;exact⟨rfl,U⟩
end Go.Proofs.YtkkdfgnnlpohlaaGreatDoor
