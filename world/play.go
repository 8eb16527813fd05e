package world

import (
	"exitwave/api"
	"exitwave/vm"
)

// begin makes the VM that a script is played at. It does no step yet, so that nothing is played where there is an error.
func begin(source string, c api.Config, l []api.Step) (*vm.VM, error) {
	v, err := vm.New(source, c)
	if err != nil {
		return nil, err
	}
	if len(l) > api.MaxSteps {
		return nil, refusal{"steps", api.ErrMany}
	}
	return v, nil
}

func play(v *vm.VM, l []api.Step) {
	for _, x := range l {
		v.Do(x)
	}
}

// refusal says what is not taken; it wraps the number.
type refusal struct {
	what   string
	number api.Errno
}

func (r refusal) Error() string { return r.what + ": " + r.number.Error() }

func (r refusal) Unwrap() error { return r.number }

func within(n, least, most int) bool { return n >= least && n <= most }
