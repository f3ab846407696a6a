package cadence

import (
	"errors"

	"cadence/api"
	"cadence/fault"
)

// answer turns what the passes found into an error number and a place.
func answer(err error) (api.Errno, int) {
	if err == nil {
		return api.OK, 0
	}
	var f fault.Fault
	errors.As(err, &f)
	return number(err), f.Place
}

func number(err error) api.Errno {
	switch {
	case errors.Is(err, fault.Long):
		return api.ErrLong
	case errors.Is(err, fault.Syntax):
		return api.ErrSyntax
	case errors.Is(err, fault.Deep):
		return api.ErrDeep
	case errors.Is(err, fault.Name):
		return api.ErrName
	case errors.Is(err, fault.Type):
		return api.ErrType
	case errors.Is(err, fault.Clock):
		return api.ErrClock
	case errors.Is(err, fault.Define):
		return api.ErrDefine
	case errors.Is(err, fault.Cause):
		return api.ErrCause
	case errors.Is(err, fault.Limit):
		return api.ErrLimit
	case errors.Is(err, fault.Image):
		return api.ErrImage
	}
	return api.ErrInput
}
