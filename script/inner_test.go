package script

import "testing"

// WordOf: for the tests that stand outside.
func WordOf(err error) string { return wordOf(err) }

// What a place's elder connections had isn't kept: no line asks for it any more.
func TestP25_1_HandlesOfElderLivesAreLetGo(t *testing.T) {
	p := New()
	p.Run("new 2 1 4 8 3 2 1 1 64 0\nconnect 0\nconnect 1\nopen\nopen")
	for range 20 {
		p.Run("cut 0\nconnect 0\nopen\n")
		if len(p.opened) != 2 || len(p.opened[0]) != 1 || len(p.opened[1]) != 1 {
			t.Fatalf("kept: %v", p.opened)
		}
	}
}

// Only a command that gives up becomes an answer: a fault of the program's own is not hidden by one.
func TestP1_NoFaultIsHidden(t *testing.T) {
	broken := New()
	broken.Line("new 1 1 4 8 3 2 1 1 64 0")
	broken.opened = nil // as no call leaves it
	defer func() {
		if recover() == nil {
			t.Error("a fault was hidden")
		}
	}()
	broken.Line("connect 0")
}
