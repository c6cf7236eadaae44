"""Sets of parcels, one make of each name, and what is at fault in them."""

from parcelmend.parcels import does_meet


def parcels_of(shelf, chosen):
    return [shelf.parcel(name, chosen[name]) for name in sorted(chosen)]


def faults_of(shelf, chosen):
    parcels = parcels_of(shelf, chosen)
    faults = []
    for parcel in parcels:
        faults.extend(need_faults(parcel, parcels))
        faults.extend(shut_faults(parcel, parcels))
        faults.extend(clash_faults(parcel, parcels))
    return sorted(faults)


def is_sound(shelf, chosen):
    return len(faults_of(shelf, chosen)) == 0


def meeting(claim, parcels):
    return [parcel for parcel in parcels if does_meet(claim, parcel)]


def need_faults(parcel, parcels):
    faults = []
    for number, claim in enumerate(parcel.needs):
        if len(meeting(claim, parcels)) == 0:
            faults.append(("need", parcel.name, number))
    return faults


def shut_faults(parcel, parcels):
    # A parcel may offer what it shuts out, so that it stands there alone.
    others = [other for other in parcels if other.name != parcel.name]
    faults = []
    for number, claim in enumerate(parcel.shuts):
        faults.extend([("shut", parcel.name, number, other.name) for other in meeting(claim, others)])
    return faults


def clash_faults(parcel, parcels):
    # Only the later names are asked, so that each two parcels are told once.
    others = [other for other in parcels if other.name > parcel.name]
    faults = []
    for other in others:
        paths = paths_of(other)
        faults.extend([("clash", parcel.name, other.name, path) for path in paths_of(parcel) if path in paths])
    return faults


def paths_of(parcel):
    return [path for path, lines in parcel.files]
