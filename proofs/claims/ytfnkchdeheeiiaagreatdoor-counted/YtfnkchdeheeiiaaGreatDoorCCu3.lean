import Derived.Test.YtfnkchdeheeiiaaGreatDoorCKa
set_option linter.all false
set_option maxRecDepth 100000
set_option maxHeartbeats 200000
namespace Go.Proofs.YtfnkchdeheeiiaaGreatDoor
namespace In
set_option maxRecDepth 100000
def c_3:(dG 3).all mC=true:=qkr
def agr:((dG 2).all λl=>mC (0::0::l))=true:=qkr
def ags:((dG 2).all λl=>mC (0::1::l))=true:=qkr
def agt:((dG 2).all λl=>mC (0::2::l))=true:=qkr
def agu:((dG 2).all λl=>mC (1::0::l))=true:=qkr
def aif:((dG 2).all λl=>mC (1::1::l))=true:=qkr
def aih:((dG 2).all λl=>mC (1::2::l))=true:=qkr
def aii:((dG 2).all λl=>mC (2::0::l))=true:=qkr
def akc:((dG 2).all λl=>mC (2::1::l))=true:=qkr
def akd:((dG 2).all λl=>mC (2::2::l))=true:=qkr
end In
end Go.Proofs.YtfnkchdeheeiiaaGreatDoor
