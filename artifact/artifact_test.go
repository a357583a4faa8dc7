package artifact

import "testing"

// The checks of some texts, as they are known from elsewhere.
func TestChecksThatAreKnown(t *testing.T) {
	for s, want := range map[string]uint32{"": 0, "a": 0xe8b7be43, "123456789": 0xcbf43926} {
		if c := checkOf(s); c != want {
			t.Errorf("%q: %x, want %x", s, c, want)
		}
	}
}

// A fault of the program itself is no refusal: the reader must not hide it.
func TestRefusalIsItsOwnType(t *testing.T) {
	defer func() {
		if _, own := recover().(refusal); !own {
			t.Errorf("a reader gave up by another value than a refusal")
		}
	}()
	must(false)
}
