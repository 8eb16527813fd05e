package eval_test

import (
	"testing"

	"exitwave/api"
)

const example = "f(0) -> 0; f(N) -> 1 + f(N - 1). g() -> try f(-1.5) catch error:X -> X end. h() -> self() ! receive {a, X} -> X end."

func TestExample1(t *testing.T) {
	m := start(t, example, "f", whole(2))
	m.expect(10, "2", 7)
	m = start(t, example, "f", whole(2))
	m.expect(2, "spent", 0)
	m.expect(1, "2", 0)
}

func TestExample2(t *testing.T) {
	start(t, example, "f", whole(-1)).stops("error system_limit")
	start(t, example, "g").stops("system_limit")
}

func TestExample3(t *testing.T) {
	m := start(t, example, "h")
	m.expect(9, "ask self []", 7)
	m.gives(pid(1))
	m.expect(7, "wait", 7)
	m.offers(atom("b"), false)
	m.offers(tuple(atom("a"), whole(7)), true)
	m.expect(0, "ask send [#Pid1,7]", 0)
	if e := m.fail(api.CExit, atom("x")); e != api.OK {
		t.Errorf("P1003 Fail: %v", e)
	}
	m.expect(3, "exit x", 3)
}
